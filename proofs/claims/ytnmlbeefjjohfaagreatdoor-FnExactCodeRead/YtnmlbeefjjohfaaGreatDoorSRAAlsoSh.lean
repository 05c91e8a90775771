/-
  No statement is proved here.
-/
import Derived.Test.YtnmlbeefjjohfaaGreatDoorSRoASh
import Derived.Test.YtnmlbeefjjohfaaGreatDoorSRoNoAlsoSh
import Derived.Test.YtnmlbeefjjohfaaGreatDoorSRoLitSh
import Derived.Test.YtnmlbeefjjohfaaGreatDoorSRoCaseSh
namespace Go.Proofs.YtnmlbeefjjohfaaGreatDoor.By
set_option maxRecDepth 100000
set_option maxHeartbeats 16000000
open Go.RowKit
set_option linter.unusedVariables false
set_option linter.unusedSimpArgs false
theorem insS_le {zs:List Int} {N:Nat} (hz:Byt zs) (hl:zs.length=N) {p:Int} (h:p≤N):(insP (parS zs) p).2≤N:=by
 have h1:((parS zs).op p).2≤N:=by
  simp only[parS]
  split
  ·
   show (-1:Int)≤N;omega
  ·
   show p+1≤N;omega
 have ha:∀ op q:Int,q≤N→(aP (parS zs) op q).2≤N:=fun op q hq=>by
  unfold aP
  split
  ·
   exact nmS_le hz hl _ hq
  ·
   split
   ·
    exact nmS_le hz hl _ hq
   ·
    exact hq
 have hb:∀ op q:Int,q≤N→(bP (parS zs) op q).2≤N:=fun op q hq=>by
  unfold bP
  split
  ·
   exact nmS_le hz hl _ hq
  ·
   exact hq
 have ht:∀ op q:Int,q≤N→(toP (parS zs) op q).2≤N:=fun op q hq=>by
  unfold toP
  split
  ·
   exact listS_le hz hl (fun p h=>nmS_le hz hl _ h) 5 hq
  ·
   exact hq
 have hx:∀ op q:Int,q≤N→(litP (parS zs) op q).2≤N:=fun op q hq=>by
  unfold litP
  split
  ·
   simp only[parS]
   cases hT:getText zs q with
   | none=>show (-1:Int)≤N;omega
   | some y =>
    unfold getText at hT
    split at hT
    ·
     cases hT
    ·
     rename_i hc
     injection hT with hT;subst hT
     show (getNum zs q).2+(getNum zs q).1≤N
     omega
  ·
   exact hq
 unfold insP;exact hx _ _ (ht _ _ (hb _ _ (ha _ _ h1)))
theorem insS (q g N:Nat) (zs:List Int) (p:Int) (w:World) (hB:Byq w q g N zs) (b:SCd w q g N p) :
  Calls Tryz.prog 15 #[.pointer (some ⟨q,0,none⟩)] w fun e u=>InSd w u q g N (insP (parS zs) p) e:=by
 by_cases hout:p < 0∨(N:Int)≤p
 ·
  exact insOutS q g N zs p w hout hB b
 obtain ⟨pn,rfl⟩:∃ pn:Nat,p=(pn:Int):=⟨p.toNat,by omega⟩
 have hin:pn < N:=by omega
 obtain ⟨z,hz⟩:∃ z,zs[pn]?.getD 0=z:=⟨_,rfl⟩;by_cases h1:z=1
 ·
  exact insOneS q g N zs pn z w hz h1 hin hB b
 by_cases h21:z=21
 ·
  exact insConS q g N zs pn z w hz h21 hin hB b
 by_cases h22:z=22
 ·
  exact insCaseS q g N zs pn z w hz h22 hin hB b
 by_cases h2:z=2
 ·
  exact insLitS q g N zs pn z w hz h2 hin hB b
 by_cases hA:hasA z=true
 ·
  exact insAS q g N zs pn z w hz ⟨hA,h1,h21,h22⟩ hin hB b
 ·
  exact insNoS q g N zs pn z w hz ⟨by simpa using hA,h2⟩ hin hB b
def findRegS (n:Nat):Code→Option Code
 | .region k ops d=>if k=n then some (.region k ops d) else none
 | .seq a b=>match findRegS n a with
  | some c=>some c
  | none=>findRegS n b
 | .cond _ a b=>match findRegS n a with
  | some c=>some c
  | none=>findRegS n b
 | .block _ c=>findRegS n c
 | .loop c=>findRegS n c
 | .scope c=>findRegS n c
 | _=>none
theorem fieldS {w:World} {g j:Nat} {t:TypeId} {cs:Array Value} {v:Value} (h:w.heap[g]? = some (.cells cs t (0,0))) (hv:cs[j]? = some v):w.cell? ⟨g,j,none⟩=some v:=by
 rw[cell_of_row w g j cs t (0,0) h];exact hv
def findBlkS (n:Nat):Code→Option Code
 | .seq a b=>match findBlkS n a with
  | some c=>some c
  | none=>findBlkS n b
 | .cond _ a b=>match findBlkS n a with
  | some c=>some c
  | none=>findBlkS n b
 | .block k c=>if k=n then some (.block k c) else findBlkS n c
 | .loop c=>findBlkS n c
 | .scope c=>findBlkS n c
 | _=>none
theorem notin2 {x q p:Nat} {bs:List Nat} (h1:x≠q) (h2:x≠p) (h3:x ∉ bs):x ∉ q::p::bs:=fun h=>by
 rcases List.mem_cons.1 h with h|h
 ·
  exact h1 h
 ·
  rcases List.mem_cons.1 h with h|h
  ·
   exact h2 h
  ·
   exact h3 h
theorem byq_of {w u:World} {q g N:Nat} {zs:List Int} (h:Row w g N zs∧zs.length=N∧Byt zs∧N≤30000∧g < w.heap.size) (hq:w.heap.size≤q) (k:w.grownBy u none):Byq u q g N zs:=⟨h.1.kept k (by simp),h.2.1,h.2.2.1,h.2.2.2.1,by omega⟩
noncomputable def reg14:Code:=((Tryz.f4.body.bind (findRegS 14)).getD .skip)
theorem reg14T (t1 t2 t3 t5 t6 t7 t9 t10 t11 t12 t13 t14 t15 t16 t17 t18 t19 t20 t21 t22 t23 t24 t25 t26 t27 t28 t29 t30 t31 t32 t33 t34 t35 t36 t37 t38 t39 t40 t41 t42 t43 t44 t45 t46 t47 t48 t49 t50 t51 t52 t53 t54 t55 t56 t57 t58 t59 t60 t61 t62 t63 t64 t65 t66 t67 t68 t69 t70 t71 t72 t73 t74 t75 t76 t77 t78 t79 t80 t81 t82 t83 t84 t85 t86 t87 t88 t89 t90 t91 t92 t93 t94 t95 t96 t97 t98 t99 t100 t101 t102 t103 t104 t105 t106 t107 t108 t109 t110 t111 t112 t113 t114 t115 t116 t117 t118 t119 t120 t121 t122 t123 t124 t125 t126 t127 t128 t129 t130 t131 t132 t133 t134 t135 t136 t137 t138 t139 t140 t141 t142 t143 t144 t145 t146 t147 t148 t149 t150 t151 t152 t153 t154 t155 t156 t157 t158 t159 t160 t161 t162 t163 t164 t165 t166 t167 t168:Value) (q g N pb:Nat) (zs:List Int) (pp:Int) (v:World) (a:Option Addr) (j c:Nat) (E:G) (bs:List Nat) (hpN:pp≤N) (hj:j≤30000) (hin:SCd v q g N pp∧Byq v q g N zs∧v.heap[pb]? = some (.cells #[.slice a j c] 42 (0,0))∧SlG v 1 a j c E bs∧bs.Nodup∧(j=0→c=0∧a=none)∧(∀ y ∈ bs,y≠pb∧y≠q)∧pb≠q) (Q:Exit→Act→World→Prop) (hQp:∀ c d v (a:Act) w,Q (.panic c) (a.put d v) w→Q (.panic c) a w)
  (hKK:∀ (s68 s69 s70 s71 s72 s73 s74:Value) (a3:Option Addr) (c3:Nat) (bs3:List Nat) (u:World),Tn v u (q::pb::bs)∧SCd u q g N (typesP (parS zs) 3 pp).2∧u.heap[pb]? = some (.cells #[.slice a3 (j+1) c3] 42 (0,0))∧SlG u 1 a3 (j+1) c3 (E.app (.sl 3 (encF (typesP (parS zs) 3 pp).1) .nil)) bs3∧bs3.Nodup∧(∀ y ∈ bs3,y ∈ bs∨v.heap.size≤y)→Q .normal ⟨#[.slice (some ⟨g,0,none⟩) N N,t1,t2,t3,.pointer (some ⟨q,0,none⟩),t5,t6,t7,.pointer (some ⟨pb,0,none⟩),t9,t10,t11,t12,t13,t14,t15,t16,t17,t18,t19,t20,t21,t22,t23,t24,t25,t26,t27,t28,t29,t30,t31,t32,t33,t34,t35,t36,t37,t38,t39,t40,t41,t42,t43,t44,t45,t46,t47,t48,t49,t50,t51,t52,t53,t54,t55,t56,t57,t58,t59,t60,t61,t62,t63,t64,t65,t66,t67,s68,s69,s70,s71,s72,s73,s74,t75,t76,t77,t78,t79,t80,t81,t82,t83,t84,t85,t86,t87,t88,t89,t90,t91,t92,t93,t94,t95,t96,t97,t98,t99,t100,t101,t102,t103,t104,t105,t106,t107,t108,t109,t110,t111,t112,t113,t114,t115,t116,t117,t118,t119,t120,t121,t122,t123,t124,t125,t126,t127,t128,t129,t130,t131,t132,t133,t134,t135,t136,t137,t138,t139,t140,t141,t142,t143,t144,t145,t146,t147,t148,t149,t150,t151,t152,t153,t154,t155,t156,t157,t158,t159,t160,t161,t162,t163,t164,t165,t166,t167,t168],[]⟩ u) :
  Code.wp Tryz.prog reg14 Q ⟨#[.slice (some ⟨g,0,none⟩) N N,t1,t2,t3,.pointer (some ⟨q,0,none⟩),t5,t6,t7,.pointer (some ⟨pb,0,none⟩),t9,t10,t11,t12,t13,t14,t15,t16,t17,t18,t19,t20,t21,t22,t23,t24,t25,t26,t27,t28,t29,t30,t31,t32,t33,t34,t35,t36,t37,t38,t39,t40,t41,t42,t43,t44,t45,t46,t47,t48,t49,t50,t51,t52,t53,t54,t55,t56,t57,t58,t59,t60,t61,t62,t63,t64,t65,t66,t67,t68,t69,t70,t71,t72,t73,t74,t75,t76,t77,t78,t79,t80,t81,t82,t83,t84,t85,t86,t87,t88,t89,t90,t91,t92,t93,t94,t95,t96,t97,t98,t99,t100,t101,t102,t103,t104,t105,t106,t107,t108,t109,t110,t111,t112,t113,t114,t115,t116,t117,t118,t119,t120,t121,t122,t123,t124,t125,t126,t127,t128,t129,t130,t131,t132,t133,t134,t135,t136,t137,t138,t139,t140,t141,t142,t143,t144,t145,t146,t147,t148,t149,t150,t151,t152,t153,t154,t155,t156,t157,t158,t159,t160,t161,t162,t163,t164,t165,t166,t167,t168],[]⟩ v:=by
 have gdr:v.grownBy v.drew none:=grown_drew (grf _ none);have hN3:N≤30000:=hin.2.1.2.2.2.1;have LV:Hid (v.grownBy v.drew none):=gdr;have SC:Hid (SCd v.drew q g N pp):=SCd.old hin.1 gdr;have HB:Hid (Byq v.drew q g N zs):=hin.2.1.old gdr;have PV:Hid (pb < v.heap.size):=lbk hin.2.2.1;have BV:Hid (∀ x ∈ bs,x < v.heap.size):=hin.2.2.2.1.lt;have NQ:Hid (bs.Nodup∧(j=0→c=0∧a=none)∧(∀ y ∈ bs,y≠pb∧y≠q)∧pb≠q):=hin.2.2.2.2;have R:Hid (SCd v.drew q g N pp∧v.drew.heap[pb]? = some (.cells #[.slice a j c] 42 (0,0))∧SlG v.drew 1 a j c E bs∧v.grownBy v.drew (some q)):=⟨SCd.old hin.1 gdr,hin.2.2.1,hin.2.2.2.1.old gdr,wide_none gdr _⟩;have HK:Hid _:=hKK;clear hin gdr hKK
 conv=>arg 2;whnf
 refine wp_region_held_drew (S:=(fun _=>True)) (by kernel_rfl) trivial (fun hH=>?_);generalize (World.drew _)=u0 at *;simp only[sA9,lB,lC,Nat.reduceAdd,Array.replicate,List.replicate];refine tk 0 ?_ (hQ:=by exact fun _ _ _ h=>hQp _ _ _ _ _ h);refine tk 2 ?_ (hQ:=by exact fun _ _ _ h=>hQp _ _ _ _ _ h);refine wpAnyH_ready (rs:=[1,3]) (by kernel_rfl) (by simp) ?_;refine AllReadyH.cons rfl (fun K hK=>?_) ?_
 ·
  skip
  have x0:_=some (Value.slice a j c):=fieldS (j:=0) R.out.2.1 rfl;go_simp;refine hK.out _ _ trivial ?_;clear hK K hH;intro hH;simp only[Act.put,nA,nB,nC,nD,nE,nF];clear x0;refine rd 3 rfl (fun K hK=>?_);have CO:Hid _:=l8typesT q g N zs 3 pp u0 HB.out SC.out (by omega) (by omega) hpN;go_simp;refine Calls.mono CO.out ?_;rintro e u6 ⟨a1,c1,rfl,hg,hcd,bd,hv,hnd,hlo⟩;obtain ⟨F1,p2,hn⟩:∃ n r,typesP (parS zs) 3 pp=(n,r):=⟨_,_,rfl⟩;have HT:Hid (typesP (parS zs) 3 pp=(F1,p2)):=hn;rw[hn] at hcd hv;rw[hn];clear hn;simp only[] at hcd hv  ⊢;generalize hlF:F1.len=lF at *;clear hlF;have VX:Hid (VsG u6 [.slice a1 lF c1] (.sl 3 (encF F1) .nil) bd∧bd.Nodup∧∀ y ∈ bd,v.heap.size≤y):=⟨hv,hnd,fun y hy=>by have:=hlo y hy;have:=LV.out.size;omega⟩;clear hv hnd hlo;have R2:Hid (SCd u6 q g N p2∧u6.heap[pb]? = some (.cells #[.slice a j c] 42 (0,0))∧SlG u6 1 a j c E bs∧v.grownBy u6 (some q)):=⟨hcd,(hg.block _ (lbk R.out.2.1) (by have:=NQ.out.2.2.2;simp;omega)).trans R.out.2.1,R.out.2.2.1.kept hg (fun y hy=>by have:=(NQ.out.2.2.1 y hy).2;simp;omega),gtr (wide_none LV.out _) hg⟩
  refine hK.out _ _ trivial ?_;clear hK K hH;intro hH;simp only[Act.put,nA,nB,nC,nD,nE,nF];clear CO R hg hcd;have R:Hid _:=R2.out;clear R2;refine rd 4 rfl (fun K hK=>?_);have ga:=gal u6 (.cells #[.slice a1 lF c1] 43) none;have ba:=hnw u6 (.cells #[.slice a1 lF c1] 43);have OX:Hid (OwnG (u6.alloc (.cells #[.slice a1 lF c1] 43)) (.sl 3 (encF F1) .nil) u6.heap.size 0 bd):=(VX.out.1.kept ga (fun _ _=>by simp)).own (cells_new (hnw u6 _));have BD:Hid (bd.Nodup∧∀ y ∈ bd,y < u6.heap.size∧v.heap.size≤y):=⟨VX.out.2.1,fun y hy=>⟨VX.out.1.lt y hy,VX.out.2.2 y hy⟩⟩;clear VX;have R2:Hid (SCd (u6.alloc (.cells #[.slice a1 lF c1] 43)) q g N p2∧(u6.alloc (.cells #[.slice a1 lF c1] 43)).heap[pb]? = some (.cells #[.slice a j c] 42 (0,0))∧SlG (u6.alloc (.cells #[.slice a1 lF c1] 43)) 1 a j c E bs∧v.grownBy (u6.alloc (.cells #[.slice a1 lF c1] 43)) (some q)):=⟨SCd.old R.out.1 ga,(ga.block _ (lbk R.out.2.1) (by simp)).trans R.out.2.1,R.out.2.2.1.old ga,gtr R.out.2.2.2 (wide_none ga _)⟩
  go_simp;refine hK.out _ _ trivial ?_;clear hK K hH;intro hH;simp only[Act.put,nA,nB,nC,nD,nE,nF];clear R ga ba;generalize u6.alloc (.cells #[.slice a1 lF c1] 43)=u7 at *;generalize u6.heap.size=q7 at *;have R:Hid _:=R2.out;clear R2;obtain ⟨i0,hi,hz0,hz1,hz2⟩:=info_parts infoTys;refine rd 5 rfl (fun K hK=>?_);refine step_pushG rfl (.tmp 69) (.tmp 72) 40 rfl 43 i0 _ Tryz.underlying40 hi hz0 1 hz1 (by rw[hz2];decide) rfl a j c E bs rfl R.out.2.2.1 NQ.out.1 NQ.out.2.1 (by omega) q7 0 rfl (.sl 3 (encF F1) .nil) bd OX.out rfl BD.out.1 (fun x hx hy=>by have h1:=BD.out.2 x hy;have h2:=BV.out x hx;omega) ?_;intro a3 c3 bs3 u8 k1 k2 k3 k4
  have nb:∀ x,(∀ y ∈ bs,y≠x)→x ∉ bs:=fun x hx hm=>hx x hm rfl
  have R2:Hid (SCd u8 q g N p2∧u8.heap[pb]? = some (.cells #[.slice a j c] 42 (0,0))∧SlG u8 1 a3 (j+1) c3 (E.app (.sl 3 (encF F1) .nil)) bs3∧bs3.Nodup∧(∀ y ∈ bs3,y≠pb∧(y ∈ bs∨v.heap.size≤y))∧Tn v u8 (q::pb::bs)):=⟨(k4.block _ (lbk R.out.1) (nb q (fun y hy=>(NQ.out.2.2.1 y hy).2))).trans R.out.1,(k4.block _ (lbk R.out.2.1) (nb pb (fun y hy=>(NQ.out.2.2.1 y hy).1))).trans R.out.2.1,k1,k2,fun y hy=>by
   rcases k3 y hy with h|h|h
   ·
    exact ⟨(NQ.out.2.2.1 y h).1,.inl h⟩
   ·
    have:=BD.out.2 y h;have:=PV.out;exact ⟨by omega,.inr (by omega)⟩
   ·
    have:=R.out.2.2.2.size;have:=PV.out;exact ⟨by omega,.inr (by omega)⟩,((Tn.row R.out.2.2.2).mono (fun x hx=>by simp at hx;subst hx;simp)).trans (k4.mono (fun x hx=>by simp [hx]))⟩
  clear OX R k1 k2 k3 k4 nb i0 hi hz0 hz1 hz2 BD;refine hK.out _ _ trivial ?_;clear hK K hH;intro hH;simp only[Act.put,nA,nB,nC,nD,nE,nF];have ks:=gsc u8 pb 0 (.slice a3 (j+1) c3);have FO:Hid (Tn v (u8.setCell ⟨pb,0,none⟩ (.slice a3 (j+1) c3)) (q::pb::bs)∧SCd (u8.setCell ⟨pb,0,none⟩ (.slice a3 (j+1) c3)) q g N p2∧(u8.setCell ⟨pb,0,none⟩ (.slice a3 (j+1) c3)).heap[pb]? = some (.cells #[.slice a3 (j+1) c3] 42 (0,0))∧SlG (u8.setCell ⟨pb,0,none⟩ (.slice a3 (j+1) c3)) 1 a3 (j+1) c3 (E.app (.sl 3 (encF F1) .nil)) bs3∧bs3.Nodup∧(∀ y ∈ bs3,y ∈ bs∨v.heap.size≤y)):=⟨R2.out.2.2.2.2.2.trans ((Tn.row ks).mono (fun x hx=>by simp at hx;subst hx;simp)),(ks.block _ (lbk R2.out.1) (by have:=NQ.out.2.2.2;simp;omega)).trans R2.out.1,hsm u8 pb 0 _ _ (.slice a3 (j+1) c3) R2.out.2.1,R2.out.2.2.1.kept ks (fun y hy=>by have:=(R2.out.2.2.2.2.1 y hy).1;simp;omega),R2.out.2.2.2.1,fun y hy=>(R2.out.2.2.2.2.1 y hy).2⟩
  have x0:_=some (Value.slice a j c):=fieldS (j:=0) R2.out.2.1 rfl;have f0:=frozen_of_row _ _ 0 _ _ R2.out.2.1;clear ks R2;refine tk 6 ?_ (hQ:=by exact fun _ _ _ h=>hQp _ _ _ _ _ h);refine rd 7 rfl (fun K hK=>?_);go_simp;refine hK.out _ _ trivial ?_;clear hK K hH;intro hH;simp only[Act.put,nA,nB,nC,nD,nE,nF];refine wpAnyH_done (by kernel_rfl) ?_ _;clear hH x0 f0;refine HK.out _ _ _ _ _ _ _ a3 c3 bs3 _ ?_;rw[HT.out];exact ⟨FO.out.1,FO.out.2.1,FO.out.2.2.1,FO.out.2.2.2.1,FO.out.2.2.2.2.1,FO.out.2.2.2.2.2⟩
 refine AllReadyH.cons rfl (fun K hK=>?_) AllReadyH.nil;have CO:Hid _:=l8typesT q g N zs 3 pp u0 HB.out SC.out (by omega) (by omega) hpN;go_simp;refine Calls.mono CO.out ?_;rintro e u6 ⟨a1,c1,rfl,hg,hcd,bd,hv,hnd,hlo⟩;obtain ⟨F1,p2,hn⟩:∃ n r,typesP (parS zs) 3 pp=(n,r):=⟨_,_,rfl⟩;have HT:Hid (typesP (parS zs) 3 pp=(F1,p2)):=hn;rw[hn] at hcd hv;rw[hn];clear hn;simp only[] at hcd hv  ⊢;generalize hlF:F1.len=lF at *;clear hlF;have VX:Hid (VsG u6 [.slice a1 lF c1] (.sl 3 (encF F1) .nil) bd∧bd.Nodup∧∀ y ∈ bd,v.heap.size≤y):=⟨hv,hnd,fun y hy=>by have:=hlo y hy;have:=LV.out.size;omega⟩;clear hv hnd hlo;have R2:Hid (SCd u6 q g N p2∧u6.heap[pb]? = some (.cells #[.slice a j c] 42 (0,0))∧SlG u6 1 a j c E bs∧v.grownBy u6 (some q)):=⟨hcd,(hg.block _ (lbk R.out.2.1) (by have:=NQ.out.2.2.2;simp;omega)).trans R.out.2.1,R.out.2.2.1.kept hg (fun y hy=>by have:=(NQ.out.2.2.1 y hy).2;simp;omega),gtr (wide_none LV.out _) hg⟩
 refine hK.out _ _ trivial ?_;clear hK K hH;intro hH;simp only[Act.put,nA,nB,nC,nD,nE,nF];clear CO R hg hcd;have R:Hid _:=R2.out;clear R2;refine wpAnyH_ready (rs:=[1,4]) (by kernel_rfl) (by simp) ?_;refine AllReadyH.cons rfl (fun K hK=>?_) ?_
 ·
  skip
  have x0:_=some (Value.slice a j c):=fieldS (j:=0) R.out.2.1 rfl;go_simp;refine hK.out _ _ trivial ?_;clear hK K hH;intro hH;simp only[Act.put,nA,nB,nC,nD,nE,nF];clear x0;refine rd 4 rfl (fun K hK=>?_);have ga:=gal u6 (.cells #[.slice a1 lF c1] 43) none;have ba:=hnw u6 (.cells #[.slice a1 lF c1] 43);have OX:Hid (OwnG (u6.alloc (.cells #[.slice a1 lF c1] 43)) (.sl 3 (encF F1) .nil) u6.heap.size 0 bd):=(VX.out.1.kept ga (fun _ _=>by simp)).own (cells_new (hnw u6 _));have BD:Hid (bd.Nodup∧∀ y ∈ bd,y < u6.heap.size∧v.heap.size≤y):=⟨VX.out.2.1,fun y hy=>⟨VX.out.1.lt y hy,VX.out.2.2 y hy⟩⟩;clear VX;have R2:Hid (SCd (u6.alloc (.cells #[.slice a1 lF c1] 43)) q g N p2∧(u6.alloc (.cells #[.slice a1 lF c1] 43)).heap[pb]? = some (.cells #[.slice a j c] 42 (0,0))∧SlG (u6.alloc (.cells #[.slice a1 lF c1] 43)) 1 a j c E bs∧v.grownBy (u6.alloc (.cells #[.slice a1 lF c1] 43)) (some q)):=⟨SCd.old R.out.1 ga,(ga.block _ (lbk R.out.2.1) (by simp)).trans R.out.2.1,R.out.2.2.1.old ga,gtr R.out.2.2.2 (wide_none ga _)⟩
  go_simp;refine hK.out _ _ trivial ?_;clear hK K hH;intro hH;simp only[Act.put,nA,nB,nC,nD,nE,nF];clear R ga ba;generalize u6.alloc (.cells #[.slice a1 lF c1] 43)=u7 at *;generalize u6.heap.size=q7 at *;have R:Hid _:=R2.out;clear R2;obtain ⟨i0,hi,hz0,hz1,hz2⟩:=info_parts infoTys;refine rd 5 rfl (fun K hK=>?_);refine step_pushG rfl (.tmp 69) (.tmp 72) 40 rfl 43 i0 _ Tryz.underlying40 hi hz0 1 hz1 (by rw[hz2];decide) rfl a j c E bs rfl R.out.2.2.1 NQ.out.1 NQ.out.2.1 (by omega) q7 0 rfl (.sl 3 (encF F1) .nil) bd OX.out rfl BD.out.1 (fun x hx hy=>by have h1:=BD.out.2 x hy;have h2:=BV.out x hx;omega) ?_;intro a3 c3 bs3 u8 k1 k2 k3 k4
  have nb:∀ x,(∀ y ∈ bs,y≠x)→x ∉ bs:=fun x hx hm=>hx x hm rfl
  have R2:Hid (SCd u8 q g N p2∧u8.heap[pb]? = some (.cells #[.slice a j c] 42 (0,0))∧SlG u8 1 a3 (j+1) c3 (E.app (.sl 3 (encF F1) .nil)) bs3∧bs3.Nodup∧(∀ y ∈ bs3,y≠pb∧(y ∈ bs∨v.heap.size≤y))∧Tn v u8 (q::pb::bs)):=⟨(k4.block _ (lbk R.out.1) (nb q (fun y hy=>(NQ.out.2.2.1 y hy).2))).trans R.out.1,(k4.block _ (lbk R.out.2.1) (nb pb (fun y hy=>(NQ.out.2.2.1 y hy).1))).trans R.out.2.1,k1,k2,fun y hy=>by
   rcases k3 y hy with h|h|h
   ·
    exact ⟨(NQ.out.2.2.1 y h).1,.inl h⟩
   ·
    have:=BD.out.2 y h;have:=PV.out;exact ⟨by omega,.inr (by omega)⟩
   ·
    have:=R.out.2.2.2.size;have:=PV.out;exact ⟨by omega,.inr (by omega)⟩,((Tn.row R.out.2.2.2).mono (fun x hx=>by simp at hx;subst hx;simp)).trans (k4.mono (fun x hx=>by simp [hx]))⟩
  clear OX R k1 k2 k3 k4 nb i0 hi hz0 hz1 hz2 BD;refine hK.out _ _ trivial ?_;clear hK K hH;intro hH;simp only[Act.put,nA,nB,nC,nD,nE,nF];have ks:=gsc u8 pb 0 (.slice a3 (j+1) c3);have FO:Hid (Tn v (u8.setCell ⟨pb,0,none⟩ (.slice a3 (j+1) c3)) (q::pb::bs)∧SCd (u8.setCell ⟨pb,0,none⟩ (.slice a3 (j+1) c3)) q g N p2∧(u8.setCell ⟨pb,0,none⟩ (.slice a3 (j+1) c3)).heap[pb]? = some (.cells #[.slice a3 (j+1) c3] 42 (0,0))∧SlG (u8.setCell ⟨pb,0,none⟩ (.slice a3 (j+1) c3)) 1 a3 (j+1) c3 (E.app (.sl 3 (encF F1) .nil)) bs3∧bs3.Nodup∧(∀ y ∈ bs3,y ∈ bs∨v.heap.size≤y)):=⟨R2.out.2.2.2.2.2.trans ((Tn.row ks).mono (fun x hx=>by simp at hx;subst hx;simp)),(ks.block _ (lbk R2.out.1) (by have:=NQ.out.2.2.2;simp;omega)).trans R2.out.1,hsm u8 pb 0 _ _ (.slice a3 (j+1) c3) R2.out.2.1,R2.out.2.2.1.kept ks (fun y hy=>by have:=(R2.out.2.2.2.2.1 y hy).1;simp;omega),R2.out.2.2.2.1,fun y hy=>(R2.out.2.2.2.2.1 y hy).2⟩
  have x0:_=some (Value.slice a j c):=fieldS (j:=0) R2.out.2.1 rfl;have f0:=frozen_of_row _ _ 0 _ _ R2.out.2.1;clear ks R2;refine tk 6 ?_ (hQ:=by exact fun _ _ _ h=>hQp _ _ _ _ _ h);refine rd 7 rfl (fun K hK=>?_);go_simp;refine hK.out _ _ trivial ?_;clear hK K hH;intro hH;simp only[Act.put,nA,nB,nC,nD,nE,nF];refine wpAnyH_done (by kernel_rfl) ?_ _;clear hH x0 f0;refine HK.out _ _ _ _ _ _ _ a3 c3 bs3 _ ?_;rw[HT.out];exact ⟨FO.out.1,FO.out.2.1,FO.out.2.2.1,FO.out.2.2.2.1,FO.out.2.2.2.2.1,FO.out.2.2.2.2.2⟩
 refine AllReadyH.cons rfl (fun K hK=>?_) AllReadyH.nil;have ga:=gal u6 (.cells #[.slice a1 lF c1] 43) none;have ba:=hnw u6 (.cells #[.slice a1 lF c1] 43);have OX:Hid (OwnG (u6.alloc (.cells #[.slice a1 lF c1] 43)) (.sl 3 (encF F1) .nil) u6.heap.size 0 bd):=(VX.out.1.kept ga (fun _ _=>by simp)).own (cells_new (hnw u6 _));have BD:Hid (bd.Nodup∧∀ y ∈ bd,y < u6.heap.size∧v.heap.size≤y):=⟨VX.out.2.1,fun y hy=>⟨VX.out.1.lt y hy,VX.out.2.2 y hy⟩⟩;clear VX;have R2:Hid (SCd (u6.alloc (.cells #[.slice a1 lF c1] 43)) q g N p2∧(u6.alloc (.cells #[.slice a1 lF c1] 43)).heap[pb]? = some (.cells #[.slice a j c] 42 (0,0))∧SlG (u6.alloc (.cells #[.slice a1 lF c1] 43)) 1 a j c E bs∧v.grownBy (u6.alloc (.cells #[.slice a1 lF c1] 43)) (some q)):=⟨SCd.old R.out.1 ga,(ga.block _ (lbk R.out.2.1) (by simp)).trans R.out.2.1,R.out.2.2.1.old ga,gtr R.out.2.2.2 (wide_none ga _)⟩;go_simp;refine hK.out _ _ trivial ?_
 clear hK K hH;intro hH;simp only[Act.put,nA,nB,nC,nD,nE,nF];clear R ga ba;generalize u6.alloc (.cells #[.slice a1 lF c1] 43)=u7 at *;generalize u6.heap.size=q7 at *;have R:Hid _:=R2.out;clear R2;refine rd 1 rfl (fun K hK=>?_);have x0:_=some (Value.slice a j c):=fieldS (j:=0) R.out.2.1 rfl;go_simp;refine hK.out _ _ trivial ?_;clear hK K hH;intro hH;simp only[Act.put,nA,nB,nC,nD,nE,nF];clear x0;obtain ⟨i0,hi,hz0,hz1,hz2⟩:=info_parts infoTys;refine rd 5 rfl (fun K hK=>?_);refine step_pushG rfl (.tmp 69) (.tmp 72) 40 rfl 43 i0 _ Tryz.underlying40 hi hz0 1 hz1 (by rw[hz2];decide) rfl a j c E bs rfl R.out.2.2.1 NQ.out.1 NQ.out.2.1 (by omega) q7 0 rfl (.sl 3 (encF F1) .nil) bd OX.out rfl BD.out.1 (fun x hx hy=>by have h1:=BD.out.2 x hy;have h2:=BV.out x hx;omega) ?_;intro a3 c3 bs3 u8 k1 k2 k3 k4
 have nb:∀ x,(∀ y ∈ bs,y≠x)→x ∉ bs:=fun x hx hm=>hx x hm rfl
 have R2:Hid (SCd u8 q g N p2∧u8.heap[pb]? = some (.cells #[.slice a j c] 42 (0,0))∧SlG u8 1 a3 (j+1) c3 (E.app (.sl 3 (encF F1) .nil)) bs3∧bs3.Nodup∧(∀ y ∈ bs3,y≠pb∧(y ∈ bs∨v.heap.size≤y))∧Tn v u8 (q::pb::bs)):=⟨(k4.block _ (lbk R.out.1) (nb q (fun y hy=>(NQ.out.2.2.1 y hy).2))).trans R.out.1,(k4.block _ (lbk R.out.2.1) (nb pb (fun y hy=>(NQ.out.2.2.1 y hy).1))).trans R.out.2.1,k1,k2,fun y hy=>by
  rcases k3 y hy with h|h|h
  ·
   exact ⟨(NQ.out.2.2.1 y h).1,.inl h⟩
  ·
   have:=BD.out.2 y h;have:=PV.out;exact ⟨by omega,.inr (by omega)⟩
  ·
   have:=R.out.2.2.2.size;have:=PV.out;exact ⟨by omega,.inr (by omega)⟩,((Tn.row R.out.2.2.2).mono (fun x hx=>by simp at hx;subst hx;simp)).trans (k4.mono (fun x hx=>by simp [hx]))⟩
 clear OX R k1 k2 k3 k4 nb i0 hi hz0 hz1 hz2 BD;refine hK.out _ _ trivial ?_;clear hK K hH;intro hH;simp only[Act.put,nA,nB,nC,nD,nE,nF];have ks:=gsc u8 pb 0 (.slice a3 (j+1) c3);have FO:Hid (Tn v (u8.setCell ⟨pb,0,none⟩ (.slice a3 (j+1) c3)) (q::pb::bs)∧SCd (u8.setCell ⟨pb,0,none⟩ (.slice a3 (j+1) c3)) q g N p2∧(u8.setCell ⟨pb,0,none⟩ (.slice a3 (j+1) c3)).heap[pb]? = some (.cells #[.slice a3 (j+1) c3] 42 (0,0))∧SlG (u8.setCell ⟨pb,0,none⟩ (.slice a3 (j+1) c3)) 1 a3 (j+1) c3 (E.app (.sl 3 (encF F1) .nil)) bs3∧bs3.Nodup∧(∀ y ∈ bs3,y ∈ bs∨v.heap.size≤y)):=⟨R2.out.2.2.2.2.2.trans ((Tn.row ks).mono (fun x hx=>by simp at hx;subst hx;simp)),(ks.block _ (lbk R2.out.1) (by have:=NQ.out.2.2.2;simp;omega)).trans R2.out.1,hsm u8 pb 0 _ _ (.slice a3 (j+1) c3) R2.out.2.1,R2.out.2.2.1.kept ks (fun y hy=>by have:=(R2.out.2.2.2.2.1 y hy).1;simp;omega),R2.out.2.2.2.1,fun y hy=>(R2.out.2.2.2.2.1 y hy).2⟩
 have x0:_=some (Value.slice a j c):=fieldS (j:=0) R2.out.2.1 rfl;have f0:=frozen_of_row _ _ 0 _ _ R2.out.2.1;clear ks R2;refine tk 6 ?_ (hQ:=by exact fun _ _ _ h=>hQp _ _ _ _ _ h);refine rd 7 rfl (fun K hK=>?_);go_simp;refine hK.out _ _ trivial ?_;clear hK K hH;intro hH;simp only[Act.put,nA,nB,nC,nD,nE,nF];refine wpAnyH_done (by kernel_rfl) ?_ _;clear hH x0 f0;refine HK.out _ _ _ _ _ _ _ a3 c3 bs3 _ ?_;rw[HT.out];exact ⟨FO.out.1,FO.out.2.1,FO.out.2.2.1,FO.out.2.2.2.1,FO.out.2.2.2.2.1,FO.out.2.2.2.2.2⟩
noncomputable def codeA:Code:=((Tryz.f4.body.bind (findBlkS 0)).getD .skip)
theorem loopA (t1 t2 t3 t8 t9 t10 t11 t12 t13 t14 t15 t16 t17 t18 t19 t20 t21 t22 t23 t24 t25 t26 t27 t28 t29 t30 t31 t32 t33 t34 t35 t36 t37 t38 t39 t40 t41 t42 t43 t44 t45 t46 t47 t48 t49 t50 t51 t52 t53 t54 t55 t56 t57 t58 t59 t60 t61 t62 t63 t64 t65 t66 t67 t68 t69 t70 t71 t72 t73 t74 t75 t76 t77 t78 t79 t80 t81 t82 t83 t84 t85 t86 t87 t88 t89 t90 t91 t92 t93 t94 t95 t96 t97 t98 t99 t100 t101 t102 t103 t104 t105 t106 t107 t108 t109 t110 t111 t112 t113 t114 t115 t116 t117 t118 t119 t120 t121 t122 t123 t124 t125 t126 t127 t128 t129 t130 t131 t132 t133 t134 t135 t136 t137 t138 t139 t140 t141 t142 t143 t144 t145 t146 t147 t148 t149 t150 t151 t152 t153 t154 t155 t156 t157 t158 t159 t160 t161 t162 t163 t164 t165 t166 t167 t168:Value) (w:World) (q2 q q5 g N:Nat) (zs:List Int) (n r:Int) (v:World) (hin:(Row w g N zs∧zs.length=N∧Byt zs∧N≤30000∧g < w.heap.size)∧(w.heap.size≤q2∧q2 < q∧q < q5∧0≤n∧n≤20∧r≤N)∧w.grownBy v none∧SCd v q g N r∧v.heap[q2]? = some (.cells #[.slice none 0 0,.slice none 0 0,.slice none 0 0] 27 (0,0))∧v.heap[q5]? = some (.cells #[.slice none 0 0,.slice none 0 0,.slice none 0 0] 27 (0,0))) (KK:Act→World→Prop) (Q:Exit→Act→World→Prop) (hQp:∀ c d v (a:Act) w,Q (.panic c) (a.put d v) w→Q (.panic c) a w)
  (hKK:∀ (s7 s8 s9 s10 s42 s43 s44 s45 s46 s47 s48 s49 s50 s51 s52 s53 s54 s55 s56 s57 s58 s59 s60 s61 s62 s63 s64 s65 s66 s67 s68 s69 s70 s71 s72 s73 s74 s75 s76 s77 s78 s79 s80:Value) (a:Option Addr) (c:Nat) (bs:List Nat) (u:World),(w.grownBy u none∧SCd u q g N (listN (layP (parS zs)) n.toNat r).2∧u.heap[q2]? = some (.cells #[.slice none 0 0,.slice none 0 0,.slice none 0 0] 27 (0,0))∧u.heap[q5]? = some (.cells #[.slice a (listN (layP (parS zs)) n.toNat r).1.length c,.slice none 0 0,.slice none 0 0] 27 (0,0))∧SlG u 1 a (listN (layP (parS zs)) n.toNat r).1.length c (encLays (listN (layP (parS zs)) n.toNat r).1) bs∧bs.Nodup∧(∀ y ∈ bs,q5 < y)∧((listN (layP (parS zs)) n.toNat r).1.length=0→c=0∧a=none))→KK ⟨#[.slice (some ⟨g,0,none⟩) N N,t1,t2,t3,.pointer (some ⟨q,0,none⟩),.pointer (some ⟨q5,0,none⟩),.int .i64 n,s7,s8,s9,s10,t11,t12,t13,t14,t15,t16,t17,t18,t19,t20,t21,t22,t23,t24,t25,t26,t27,t28,t29,t30,t31,t32,t33,t34,t35,t36,t37,t38,t39,t40,t41,s42,s43,s44,s45,s46,s47,s48,s49,s50,s51,s52,s53,s54,s55,s56,s57,s58,s59,s60,s61,s62,s63,s64,s65,s66,s67,s68,s69,s70,s71,s72,s73,s74,s75,s76,s77,s78,s79,s80,t81,t82,t83,t84,t85,t86,t87,t88,t89,t90,t91,t92,t93,t94,t95,t96,t97,t98,t99,t100,t101,t102,t103,t104,t105,t106,t107,t108,t109,t110,t111,t112,t113,t114,t115,t116,t117,t118,t119,t120,t121,t122,t123,t124,t125,t126,t127,t128,t129,t130,t131,t132,t133,t134,t135,t136,t137,t138,t139,t140,t141,t142,t143,t144,t145,t146,t147,t148,t149,t150,t151,t152,t153,t154,t155,t156,t157,t158,t159,t160,t161,t162,t163,t164,t165,t166,t167,t168],[]⟩ u) :
  Code.wp Tryz.prog codeA (Exit.then KK Q) ⟨#[.slice (some ⟨g,0,none⟩) N N,t1,t2,t3,.pointer (some ⟨q,0,none⟩),.pointer (some ⟨q5,0,none⟩),.int .i64 n,.int .i64 0,t8,t9,t10,t11,t12,t13,t14,t15,t16,t17,t18,t19,t20,t21,t22,t23,t24,t25,t26,t27,t28,t29,t30,t31,t32,t33,t34,t35,t36,t37,t38,t39,t40,t41,t42,t43,t44,t45,t46,t47,t48,t49,t50,t51,t52,t53,t54,t55,t56,t57,t58,t59,t60,t61,t62,t63,t64,t65,t66,t67,t68,t69,t70,t71,t72,t73,t74,t75,t76,t77,t78,t79,t80,t81,t82,t83,t84,t85,t86,t87,t88,t89,t90,t91,t92,t93,t94,t95,t96,t97,t98,t99,t100,t101,t102,t103,t104,t105,t106,t107,t108,t109,t110,t111,t112,t113,t114,t115,t116,t117,t118,t119,t120,t121,t122,t123,t124,t125,t126,t127,t128,t129,t130,t131,t132,t133,t134,t135,t136,t137,t138,t139,t140,t141,t142,t143,t144,t145,t146,t147,t148,t149,t150,t151,t152,t153,t154,t155,t156,t157,t158,t159,t160,t161,t162,t163,t164,t165,t166,t167,t168],[]⟩ v:=by
 have BH:Hid (Row w g N zs∧zs.length=N∧Byt zs∧N≤30000∧g < w.heap.size):=hin.1;have PQ:Hid (w.heap.size≤q2∧q2 < q∧q < q5∧0≤n∧n≤20∧r≤N):=hin.2.1;have L0:Hid _:=hin.2.2;have HK:Hid _:=hKK;have hn0:0≤n:=PQ.out.2.2.2.1;have hn5:n≤20:=PQ.out.2.2.2.2.1
 have TL:Hid (∀ pp:Int,pp≤N→((typesP (parS zs) 3) pp).2≤N):=fun pp h=>typesS_le BH.out.2.2.1 BH.out.2.1 3 h
 have NB:Hid (N≤30000):=BH.out.2.2.2.1;clear hin hKK
 conv=>arg 2;whnf
 go_wp2
 go_loopw [7] (fun s7 wr=>∃ (j:Nat) (P:List RLayout) (pp:Int) (a:Option Addr) (c:Nat) (bs:List Nat),s7 = .int .i64 j∧Hid (w.grownBy wr none∧SCd wr q g N pp∧wr.heap[q2]? = some (.cells #[.slice none 0 0,.slice none 0 0,.slice none 0 0] 27 (0,0))∧wr.heap[q5]? = some (.cells #[.slice a j c,.slice none 0 0,.slice none 0 0] 27 (0,0))∧SlG wr 1 a j c (encLays P) bs∧bs.Nodup∧(∀ y ∈ bs,q5 < y)∧(j=0→c=0∧a=none))∧P.length=j∧(j:Int)≤n∧Hid (listN (layP (parS zs)) n.toNat r=(P++(listN (layP (parS zs)) (n.toNat - j) pp).1,(listN (layP (parS zs)) (n.toNat - j) pp).2))∧pp≤N) (fun i _=>n.toNat - (intOf i).toNat)
 case atStart=>exact ⟨0,[],r,none,0,[],rfl,⟨L0.out.1,L0.out.2.1,L0.out.2.2.1,L0.out.2.2.2,SlG.nil _ _ _ _,List.nodup_nil,fun y hy=>by simp at hy,fun _=>⟨rfl,rfl⟩⟩,rfl,by simpa using hn0,by show _=_;simp,PQ.out.2.2.2.2.2⟩
 case round =>
  obtain ⟨j,P,pp,a,c,bs,rfl,R,hPl,hjn,HE,hpN⟩:=hrel;clear L0;obtain ⟨⟨z0,z1⟩,h0,h3⟩:=two R.out.2.1;by_cases hlt:(j:Int) < n
  ·
   by_cases hpp:0≤pp
   ·
    have ga:=gal wr (.cells #[.slice none 0 0] 42) none;have ba:=hnw wr (.cells #[.slice none 0 0] 42);have CC:Hid _:=l8numT q g N zs 5 pp (wr.alloc (.cells #[.slice none 0 0] 42)) (byq_of BH.out (by have:=PQ.out;omega) (gtr R.out.1 ga)) (SCd.old R.out.2.1 ga) (by have:=NB.out;omega);have R2:Hid (w.grownBy (wr.alloc (.cells #[.slice none 0 0] 42)) none∧SCd (wr.alloc (.cells #[.slice none 0 0] 42)) q g N pp∧(wr.alloc (.cells #[.slice none 0 0] 42)).heap[q2]? = some (.cells #[.slice none 0 0,.slice none 0 0,.slice none 0 0] 27 (0,0))∧(wr.alloc (.cells #[.slice none 0 0] 42)).heap[q5]? = some (.cells #[.slice a j c,.slice none 0 0,.slice none 0 0] 27 (0,0))∧SlG (wr.alloc (.cells #[.slice none 0 0] 42)) 1 a j c (encLays P) bs∧(wr.alloc (.cells #[.slice none 0 0] 42)).heap[wr.heap.size]? = some (.cells #[.slice none 0 0] 42 (0,0))):=⟨gtr R.out.1 ga,SCd.old R.out.2.1 ga,(ga.block _ (lbk R.out.2.2.1) (by simp)).trans R.out.2.2.1,(ga.block _ (lbk R.out.2.2.2.1) (by simp)).trans R.out.2.2.2.1,R.out.2.2.2.2.1.old ga,ba⟩
    have BL:Hid (∀ y ∈ bs,y < wr.heap.size):=fun y hy=>R.out.2.2.2.2.1.lt y hy
    have RB:Hid (bs.Nodup∧(∀ y ∈ bs,q5 < y)∧(j=0→c=0∧a=none)):=R.out.2.2.2.2.2;have P8:Hid (q5 < wr.heap.size):=lbk R.out.2.2.2.1;clear ga ba R;go_wp2_with fail;generalize wr.alloc (.cells #[.slice none 0 0] 42)=w1 at *;generalize wr.heap.size=q8 at *;refine Calls.mono CC.out ?_;rintro e u ⟨rfl,hg,hcd⟩;obtain ⟨m,p5,hm⟩:∃ m p5,(parS zs).nm 5 pp=(m,p5):=⟨_,_,rfl⟩;have HNM:Hid ((parS zs).nm 5 pp=(m,p5)):=hm;have hq5:=nmS_le BH.out.2.2.1 BH.out.2.1 5 hpN;have hmm:=nmS_nn BH.out.2.2.1 BH.out.2.1 5 (by omega) pp;rw[hm] at hcd hq5 hmm;rw[hm];clear hm;simp only[] at hcd hq5 hmm ⊢;obtain ⟨hm0,hm5⟩:=hmm;have S0:Hid (w.grownBy u none∧SCd u q g N p5∧u.heap[q2]? = some (.cells #[.slice none 0 0,.slice none 0 0,.slice none 0 0] 27 (0,0))∧u.heap[q5]? = some (.cells #[.slice a j c,.slice none 0 0,.slice none 0 0] 27 (0,0))∧SlG u 1 a j c (encLays P) bs∧u.heap[q8]? = some (.cells #[.slice none 0 0] 42 (0,0))):=⟨grown_into R2.out.1 hg (by have:=PQ.out;omega),hcd,(hg.block _ (lbk R2.out.2.2.1) (by have:=PQ.out;simp;omega)).trans R2.out.2.2.1,(hg.block _ (lbk R2.out.2.2.2.1) (by have:=PQ.out;simp;omega)).trans R2.out.2.2.2.1,R2.out.2.2.2.2.1.kept hg (fun y hy=>by have:=RB.out.2.1 y hy;have:=PQ.out;simp;omega),(hg.block _ (lbk R2.out.2.2.2.2.2) (by have:=PQ.out;have:=P8.out;simp;omega)).trans R2.out.2.2.2.2.2⟩
    clear CC hg hcd R2 z0 z1 h0 h3;go_wp2
    go_loopw [10] (fun s10 wx=>∃ (i:Nat) (Q:List F) (p':Int) (a':Option Addr) (c':Nat) (bs':List Nat),s10 = .int .i64 i∧Hid (w.grownBy wx none∧SCd wx q g N p'∧wx.heap[q2]? = some (.cells #[.slice none 0 0,.slice none 0 0,.slice none 0 0] 27 (0,0))∧wx.heap[q5]? = some (.cells #[.slice a j c,.slice none 0 0,.slice none 0 0] 27 (0,0))∧SlG wx 1 a j c (encLays P) bs∧wx.heap[q8]? = some (.cells #[.slice a' i c'] 42 (0,0))∧SlG wx 1 a' i c' (encTys Q) bs'∧bs'.Nodup∧(∀ y ∈ bs',q8 < y)∧(i=0→c' = 0∧a' = none))∧Q.length=i∧(i:Int)≤m∧Hid (listN (typesP (parS zs) 3) m.toNat p5=(Q++(listN (typesP (parS zs) 3) (m.toNat - i) p').1,(listN (typesP (parS zs) 3) (m.toNat - i) p').2))∧p'≤N) (fun x _=>m.toNat - (intOf x).toNat)
    case atStart=>exact ⟨0,[],p5,none,0,[],rfl,⟨S0.out.1,S0.out.2.1,S0.out.2.2.1,S0.out.2.2.2.1,S0.out.2.2.2.2.1,S0.out.2.2.2.2.2,SlG.nil _ _ _ _,List.nodup_nil,fun y hy=>by simp at hy,fun _=>⟨rfl,rfl⟩⟩,rfl,by simpa using hm0,by show _=_;simp,hq5⟩
    case round =>
     obtain ⟨i,Q,p',a',c',bs',rfl,S,hQl,him,HE3,hpN'⟩:=hrel;clear S0;obtain ⟨⟨z0,z1⟩,h0,h3⟩:=two S.out.2.1;by_cases hlt2:(i:Int) < m
     ·
      by_cases hpp2:0≤p'
      ·
       have HA:Hid _:=TL.out p' hpN';go_upto_region 14 with fail;clear z0 z1 h0 h3;refine reg14T _ _ _ _ _ _ _ _ _ _ _ _ _ _ _ _ _ _ _ _ _ _ _ _ _ _ _ _ _ _ _ _ _ _ _ _ _ _ _ _ _ _ _ _ _ _ _ _ _ _ _ _ _ _ _ _ _ _ _ _ _ _ _ _ _ _ _ _ _ _ _ _ _ _ _ _ _ _ _ _ _ _ _ _ _ _ _ _ _ _ _ _ _ _ _ _ _ _ _ _ _ _ _ _ _ _ _ _ _ _ _ _ _ _ _ _ _ _ _ _ _ _ _ _ _ _ _ _ _ _ _ _ _ _ _ _ _ _ _ _ _ _ _ _ _ _ _ _ _ _ _ _ _ _ _ _ _ _ _ _ _ _ _ _ _ _ q g N q8 zs p' _ a' i c' (encTys Q) bs' hpN' (by omega) ⟨S.out.2.1,byq_of BH.out (by have:=PQ.out;omega) S.out.1,S.out.2.2.2.2.2.1,S.out.2.2.2.2.2.2.1,S.out.2.2.2.2.2.2.2.1,S.out.2.2.2.2.2.2.2.2.2,fun y hy=>by have:=S.out.2.2.2.2.2.2.2.2.1 y hy;have:=PQ.out;have:=P8.out;omega,by have:=PQ.out;have:=P8.out;omega⟩ _ (fun c d v a w h=>hQp c d v a w h) ?_;simp only[Exit.inBlock,Exit.then];intro s68 s69 s70 s71 s72 s73 s74 a3 c3 bs3 u ⟨o1,o2,o3,o4,o5,o6⟩
       have hlow:∀ y ∈ bs3,q8 < y:=fun y hy=>by
        rcases o6 y hy with h|h
        ·
         exact S.out.2.2.2.2.2.2.2.2.1 y h
        ·
         have:=lbk S.out.2.2.2.2.2.1;omega
       have nm:∀ x,x≤q8→x ∉ bs':=fun x hx hm=>by have:=S.out.2.2.2.2.2.2.2.2.1 x hm;omega
       have S2:Hid (w.grownBy u none∧SCd u q g N ((typesP (parS zs) 3) p').2∧u.heap[q2]? = some (.cells #[.slice none 0 0,.slice none 0 0,.slice none 0 0] 27 (0,0))∧u.heap[q5]? = some (.cells #[.slice a j c,.slice none 0 0,.slice none 0 0] 27 (0,0))∧SlG u 1 a j c (encLays P) bs∧u.heap[q8]? = some (.cells #[.slice a3 (i+1) c3] 42 (0,0))∧SlG u 1 a3 (i+1) c3 (encTys (Q++[((typesP (parS zs) 3) p').1])) bs3∧bs3.Nodup∧(∀ y ∈ bs3,q8 < y)∧((i+1)=0→c3=0∧a3=none)):=⟨Tn.fresh S.out.1 o1 (fun x hx=>by
        rcases List.mem_cons.1 hx with rfl|hx
        ·
         have:=PQ.out;omega
        rcases List.mem_cons.1 hx with rfl|hx
        ·
         have:=PQ.out;have:=P8.out;omega
        ·
         have:=S.out.2.2.2.2.2.2.2.2.1 x hx;have:=PQ.out;have:=P8.out;omega),o2,(o1.block _ (lbk S.out.2.2.1) (notin2 (by have:=PQ.out;omega) (by have:=PQ.out;have:=P8.out;omega) (nm q2 (by have:=PQ.out;have:=P8.out;omega)))).trans S.out.2.2.1,(o1.block _ (lbk S.out.2.2.2.1) (notin2 (by have:=PQ.out;omega) (by have:=P8.out;omega) (nm q5 (by have:=P8.out;omega)))).trans S.out.2.2.2.1,S.out.2.2.2.2.1.tn o1 (fun y hy=>by have h1:=RB.out.2.1 y hy;have h2:=BL.out y hy;have:=PQ.out;exact notin2 (by omega) (by omega) (nm y (by omega))),o3,by rw[encTys_app];exact o4,o5,hlow,fun h=>by omega⟩
       clear S o1 o2 o3 o4 o5 o6 hlow nm
       have HE4:Hid (listN (typesP (parS zs) 3) m.toNat p5=((Q++[((typesP (parS zs) 3) p').1])++(listN (typesP (parS zs) 3) (m.toNat - (i+1)) ((typesP (parS zs) 3) p').2).1,(listN (typesP (parS zs) 3) (m.toNat - (i+1)) ((typesP (parS zs) 3) p').2).2)):=by
        show _=_
        rw[HE3.out,show m.toNat - i=(m.toNat - (i+1))+1 by omega,listN_succ _ _ hpp2,lD9];rfl
       have hN2:((typesP (parS zs) 3) p').2≤N:=HA.out;go_wp2;go_roundw
       case rel=>exact ⟨i+1,Q++[((typesP (parS zs) 3) p').1],((typesP (parS zs) 3) p').2,a3,c3,bs3,by go_num,S2,by simp [hQl],by omega,HE4,hN2⟩
       case measure=>simp [intOf];omega
      ·
       have HF:Hid (layP (parS zs) pp=(⟨Q⟩,p')):=by
        show _=_
        unfold layP listP;rw[HNM.out];simp only[];rw[HE3.out,listN_neg _ _ (by omega)];simp
       clear HE3 HNM;have ga:=gal wr (.cells #[.slice a' i c'] 42) none
       have bdl:∀ y ∈ bs',y < wr.heap.size:=fun y hy=>S.out.2.2.2.2.2.2.1.lt y hy
       have bsl:∀ y ∈ bs,y < q8:=fun y hy=>BL.out y hy
       have OX:Hid (OwnG (wr.alloc (.cells #[.slice a' i c'] 42)) (.sl 1 (encTys Q) .nil) wr.heap.size 0 bs'):=by
        have hv:VsG wr [.slice a' i c'] (.sl 1 (encTys Q) .nil) bs':=⟨bs',[],a',i,c',by simp,rfl,S.out.2.2.2.2.2.2.1,rfl⟩;exact (hv.kept ga (fun _ _=>by simp)).own (cells_new (hnw wr _))
       have AC:Hid (SlG (wr.alloc (.cells #[.slice a' i c'] 42)) 1 a j c (encLays P) bs∧bs.Nodup∧(∀ x ∈ bs,x ∉ bs')∧bs'.Nodup∧(j=0→c=0∧a=none)):=⟨S.out.2.2.2.2.1.old ga,RB.out.1,fun x hx hy=>by have:=bsl x hx;have:=S.out.2.2.2.2.2.2.2.2.1 x hy;omega,S.out.2.2.2.2.2.2.2.1,RB.out.2.2⟩;have FR:Hid (w.grownBy (wr.alloc (.cells #[.slice a' i c'] 42)) none∧SCd (wr.alloc (.cells #[.slice a' i c'] 42)) q g N p'∧(wr.alloc (.cells #[.slice a' i c'] 42)).heap[q2]? = some (.cells #[.slice none 0 0,.slice none 0 0,.slice none 0 0] 27 (0,0))∧(wr.alloc (.cells #[.slice a' i c'] 42)).heap[q5]? = some (.cells #[.slice a j c,.slice none 0 0,.slice none 0 0] 27 (0,0))∧(∀ y ∈ bs,q5 < y)∧(∀ y ∈ bs',q5 < y)):=⟨gtr S.out.1 ga,SCd.old S.out.2.1 ga,(ga.block _ (lbk S.out.2.2.1) (by simp)).trans S.out.2.2.1,(ga.block _ (lbk S.out.2.2.2.1) (by simp)).trans S.out.2.2.2.1,RB.out.2.1,fun y hy=>by have:=S.out.2.2.2.2.2.2.2.2.1 y hy;have:=P8.out;omega⟩
       obtain ⟨⟨x0,x1,x2⟩,-⟩:=blkProg S.out.2.2.2.1;obtain ⟨y0,-⟩:=blkLayout S.out.2.2.2.2.2.1;clear ga bdl bsl S
       have H5:Hid (∀ u3,Tn (wr.alloc (.cells #[.slice a' i c'] 42)) u3 bs→u3.heap[q5]? = some (.cells #[.slice a j c,.slice none 0 0,.slice none 0 0] 27 (0,0))):=fun u3 k4=>(k4.block _ (lbk FR.out.2.2.2.1) (fun hm=>by have:=FR.out.2.2.2.2.1 q5 hm;omega)).trans FR.out.2.2.2.1
       obtain ⟨i0,hi,hz0,hz1,hz2⟩:=info_parts infoLay;go_wp2_with (at_builtin;go_must (refine wpList_pushG rfl (.tmp 76) (.tmp 78) 23 rfl 42 i0 _ Tryz.underlying23 hi hz0 1 hz1 (by rw[hz2];decide) rfl a j c _ bs rfl AC.out.1 AC.out.2.1 AC.out.2.2.2.2 (by omega) wr.heap.size 0 rfl _ bs' OX.out rfl AC.out.2.2.2.1 AC.out.2.2.1 ?_);intro a3 c3 bs3 u3 k1 k2 k3 k4;obtain ⟨⟨x5,x6,x7⟩,hfy⟩:=blkProg (H5.out u3 k4);have f5:=hfy 0;clear hfy)
       have hlow:∀ y ∈ bs3,q5 < y:=fun y hy=>by
        rcases k3 y hy with h|h|h
        ·
         exact FR.out.2.2.2.2.1 y h
        ·
         exact FR.out.2.2.2.2.2 y h
        ·
         have:=lbk FR.out.2.2.2.1;omega
       have nb:∀ x,x≤q5→x ∉ bs:=fun x hx hm=>by have:=FR.out.2.2.2.2.1 x hm;omega
       have gq:=Tn.fresh FR.out.1 k4 (fun x hx=>by have:=FR.out.2.2.2.2.1 x hx;have:=PQ.out;omega);have h5:u3.heap[q5]? = some (.cells #[.slice a j c,.slice none 0 0,.slice none 0 0] 27 (0,0)):=(k4.block _ (lbk FR.out.2.2.2.1) (nb q5 (Nat.le_refl _))).trans FR.out.2.2.2.1
       have hEn:(encLays P).app (.sl 1 (encTys Q) .nil)=encLays (P++[⟨Q⟩]):=by rw[encLays_app];rfl
       rw[hEn] at k1;have ks:=gsc u3 q5 0 (.slice a3 (j+1) c3);have RN:Hid (w.grownBy (u3.setCell ⟨q5,0,none⟩ (.slice a3 (j+1) c3)) none∧SCd (u3.setCell ⟨q5,0,none⟩ (.slice a3 (j+1) c3)) q g N p'∧(u3.setCell ⟨q5,0,none⟩ (.slice a3 (j+1) c3)).heap[q2]? = some (.cells #[.slice none 0 0,.slice none 0 0,.slice none 0 0] 27 (0,0))∧(u3.setCell ⟨q5,0,none⟩ (.slice a3 (j+1) c3)).heap[q5]? = some (.cells #[.slice a3 (j+1) c3,.slice none 0 0,.slice none 0 0] 27 (0,0))∧SlG (u3.setCell ⟨q5,0,none⟩ (.slice a3 (j+1) c3)) 1 a3 (j+1) c3 (encLays (P++[⟨Q⟩])) bs3∧bs3.Nodup∧(∀ y ∈ bs3,q5 < y)∧((j+1)=0→c3=0∧a3=none)):=⟨grown_into gq ks (by have:=PQ.out;omega),(ks.block _ (lbk ((k4.block _ (lbk FR.out.2.1) (nb q (by have:=PQ.out;omega))).trans FR.out.2.1)) (by have:=PQ.out;simp;omega)).trans ((k4.block _ (lbk FR.out.2.1) (nb q (by have:=PQ.out;omega))).trans FR.out.2.1),(ks.block _ (lbk ((k4.block _ (lbk FR.out.2.2.1) (nb q2 (by have:=PQ.out;omega))).trans FR.out.2.2.1)) (by have:=PQ.out;simp;omega)).trans ((k4.block _ (lbk FR.out.2.2.1) (nb q2 (by have:=PQ.out;omega))).trans FR.out.2.2.1),hsm u3 q5 0 _ _ (.slice a3 (j+1) c3) h5,k1.kept ks (fun y hy=>by have:=hlow y hy;simp;omega),k2,hlow,fun h=>by omega⟩
       clear x0 x1 x2 y0 x5 x6 x7 f5 H5;clear AC OX FR k1 k2 k3 k4 hlow nb gq h5 hEn ks i0 hi hz0 hz1 hz2 BL RB P8
       have HE2:Hid (listN (layP (parS zs)) n.toNat r=((P++[⟨Q⟩])++(listN (layP (parS zs)) (n.toNat - (j+1)) p').1,(listN (layP (parS zs)) (n.toNat - (j+1)) p').2)):=by
        show _=_
        rw[HE.out,show n.toNat - j=(n.toNat - (j+1))+1 by omega,listN_succ _ _ hpp,lD9,HF.out];rfl
       clear HE HF;go_roundw
       case rel=>exact ⟨j+1,P++[⟨Q⟩],p',a3,c3,bs3,by go_num,RN,by simp [hPl],by omega,HE2,hpN'⟩
       case measure=>simp [intOf];omega
     ·
      have HF:Hid (layP (parS zs) pp=(⟨Q⟩,p')):=by
       show _=_
       unfold layP listP;rw[HNM.out];simp only[];rw[HE3.out,(show m.toNat - i=0 by omega),show listN (typesP (parS zs) 3) 0 p' = ([],p') from rfl];simp
      clear HE3 HNM;have ga:=gal wr (.cells #[.slice a' i c'] 42) none
      have bdl:∀ y ∈ bs',y < wr.heap.size:=fun y hy=>S.out.2.2.2.2.2.2.1.lt y hy
      have bsl:∀ y ∈ bs,y < q8:=fun y hy=>BL.out y hy
      have OX:Hid (OwnG (wr.alloc (.cells #[.slice a' i c'] 42)) (.sl 1 (encTys Q) .nil) wr.heap.size 0 bs'):=by
       have hv:VsG wr [.slice a' i c'] (.sl 1 (encTys Q) .nil) bs':=⟨bs',[],a',i,c',by simp,rfl,S.out.2.2.2.2.2.2.1,rfl⟩;exact (hv.kept ga (fun _ _=>by simp)).own (cells_new (hnw wr _))
      have AC:Hid (SlG (wr.alloc (.cells #[.slice a' i c'] 42)) 1 a j c (encLays P) bs∧bs.Nodup∧(∀ x ∈ bs,x ∉ bs')∧bs'.Nodup∧(j=0→c=0∧a=none)):=⟨S.out.2.2.2.2.1.old ga,RB.out.1,fun x hx hy=>by have:=bsl x hx;have:=S.out.2.2.2.2.2.2.2.2.1 x hy;omega,S.out.2.2.2.2.2.2.2.1,RB.out.2.2⟩;have FR:Hid (w.grownBy (wr.alloc (.cells #[.slice a' i c'] 42)) none∧SCd (wr.alloc (.cells #[.slice a' i c'] 42)) q g N p'∧(wr.alloc (.cells #[.slice a' i c'] 42)).heap[q2]? = some (.cells #[.slice none 0 0,.slice none 0 0,.slice none 0 0] 27 (0,0))∧(wr.alloc (.cells #[.slice a' i c'] 42)).heap[q5]? = some (.cells #[.slice a j c,.slice none 0 0,.slice none 0 0] 27 (0,0))∧(∀ y ∈ bs,q5 < y)∧(∀ y ∈ bs',q5 < y)):=⟨gtr S.out.1 ga,SCd.old S.out.2.1 ga,(ga.block _ (lbk S.out.2.2.1) (by simp)).trans S.out.2.2.1,(ga.block _ (lbk S.out.2.2.2.1) (by simp)).trans S.out.2.2.2.1,RB.out.2.1,fun y hy=>by have:=S.out.2.2.2.2.2.2.2.2.1 y hy;have:=P8.out;omega⟩
      obtain ⟨⟨x0,x1,x2⟩,-⟩:=blkProg S.out.2.2.2.1;obtain ⟨y0,-⟩:=blkLayout S.out.2.2.2.2.2.1;clear ga bdl bsl S
      have H5:Hid (∀ u3,Tn (wr.alloc (.cells #[.slice a' i c'] 42)) u3 bs→u3.heap[q5]? = some (.cells #[.slice a j c,.slice none 0 0,.slice none 0 0] 27 (0,0))):=fun u3 k4=>(k4.block _ (lbk FR.out.2.2.2.1) (fun hm=>by have:=FR.out.2.2.2.2.1 q5 hm;omega)).trans FR.out.2.2.2.1
      obtain ⟨i0,hi,hz0,hz1,hz2⟩:=info_parts infoLay;go_wp2_with (at_builtin;go_must (refine wpList_pushG rfl (.tmp 76) (.tmp 78) 23 rfl 42 i0 _ Tryz.underlying23 hi hz0 1 hz1 (by rw[hz2];decide) rfl a j c _ bs rfl AC.out.1 AC.out.2.1 AC.out.2.2.2.2 (by omega) wr.heap.size 0 rfl _ bs' OX.out rfl AC.out.2.2.2.1 AC.out.2.2.1 ?_);intro a3 c3 bs3 u3 k1 k2 k3 k4;obtain ⟨⟨x5,x6,x7⟩,hfy⟩:=blkProg (H5.out u3 k4);have f5:=hfy 0;clear hfy)
      have hlow:∀ y ∈ bs3,q5 < y:=fun y hy=>by
       rcases k3 y hy with h|h|h
       ·
        exact FR.out.2.2.2.2.1 y h
       ·
        exact FR.out.2.2.2.2.2 y h
       ·
        have:=lbk FR.out.2.2.2.1;omega
      have nb:∀ x,x≤q5→x ∉ bs:=fun x hx hm=>by have:=FR.out.2.2.2.2.1 x hm;omega
      have gq:=Tn.fresh FR.out.1 k4 (fun x hx=>by have:=FR.out.2.2.2.2.1 x hx;have:=PQ.out;omega);have h5:u3.heap[q5]? = some (.cells #[.slice a j c,.slice none 0 0,.slice none 0 0] 27 (0,0)):=(k4.block _ (lbk FR.out.2.2.2.1) (nb q5 (Nat.le_refl _))).trans FR.out.2.2.2.1
      have hEn:(encLays P).app (.sl 1 (encTys Q) .nil)=encLays (P++[⟨Q⟩]):=by rw[encLays_app];rfl
      rw[hEn] at k1;have ks:=gsc u3 q5 0 (.slice a3 (j+1) c3);have RN:Hid (w.grownBy (u3.setCell ⟨q5,0,none⟩ (.slice a3 (j+1) c3)) none∧SCd (u3.setCell ⟨q5,0,none⟩ (.slice a3 (j+1) c3)) q g N p'∧(u3.setCell ⟨q5,0,none⟩ (.slice a3 (j+1) c3)).heap[q2]? = some (.cells #[.slice none 0 0,.slice none 0 0,.slice none 0 0] 27 (0,0))∧(u3.setCell ⟨q5,0,none⟩ (.slice a3 (j+1) c3)).heap[q5]? = some (.cells #[.slice a3 (j+1) c3,.slice none 0 0,.slice none 0 0] 27 (0,0))∧SlG (u3.setCell ⟨q5,0,none⟩ (.slice a3 (j+1) c3)) 1 a3 (j+1) c3 (encLays (P++[⟨Q⟩])) bs3∧bs3.Nodup∧(∀ y ∈ bs3,q5 < y)∧((j+1)=0→c3=0∧a3=none)):=⟨grown_into gq ks (by have:=PQ.out;omega),(ks.block _ (lbk ((k4.block _ (lbk FR.out.2.1) (nb q (by have:=PQ.out;omega))).trans FR.out.2.1)) (by have:=PQ.out;simp;omega)).trans ((k4.block _ (lbk FR.out.2.1) (nb q (by have:=PQ.out;omega))).trans FR.out.2.1),(ks.block _ (lbk ((k4.block _ (lbk FR.out.2.2.1) (nb q2 (by have:=PQ.out;omega))).trans FR.out.2.2.1)) (by have:=PQ.out;simp;omega)).trans ((k4.block _ (lbk FR.out.2.2.1) (nb q2 (by have:=PQ.out;omega))).trans FR.out.2.2.1),hsm u3 q5 0 _ _ (.slice a3 (j+1) c3) h5,k1.kept ks (fun y hy=>by have:=hlow y hy;simp;omega),k2,hlow,fun h=>by omega⟩
      clear x0 x1 x2 y0 x5 x6 x7 f5 H5;clear AC OX FR k1 k2 k3 k4 hlow nb gq h5 hEn ks i0 hi hz0 hz1 hz2 BL RB P8
      have HE2:Hid (listN (layP (parS zs)) n.toNat r=((P++[⟨Q⟩])++(listN (layP (parS zs)) (n.toNat - (j+1)) p').1,(listN (layP (parS zs)) (n.toNat - (j+1)) p').2)):=by
       show _=_
       rw[HE.out,show n.toNat - j=(n.toNat - (j+1))+1 by omega,listN_succ _ _ hpp,lD9,HF.out];rfl
      clear HE HF;go_roundw
      case rel=>exact ⟨j+1,P++[⟨Q⟩],p',a3,c3,bs3,by go_num,RN,by simp [hPl],by omega,HE2,hpN'⟩
      case measure=>simp [intOf];omega
   ·
    have HF:Hid (listN (layP (parS zs)) n.toNat r=(P,pp)):=by show _=_;rw[HE.out,listN_neg _ _ (by omega)];simp
    clear HE;go_wp2;refine HK.out _ _ _ _ _ _ _ _ _ _ _ _ _ _ _ _ _ _ _ _ _ _ _ _ _ _ _ _ _ _ _ _ _ _ _ _ _ _ _ _ _ _ _ a c bs _ ?_;rw[HF.out,hPl];exact R.out
  ·
   have HF:Hid (listN (layP (parS zs)) n.toNat r=(P,pp)):=by show _=_;rw[HE.out,(show n.toNat - j=0 by omega),show listN (layP (parS zs)) 0 pp=([],pp) from rfl];simp
   clear HE;go_wp2;refine HK.out _ _ _ _ _ _ _ _ _ _ _ _ _ _ _ _ _ _ _ _ _ _ _ _ _ _ _ _ _ _ _ _ _ _ _ _ _ _ _ _ _ _ _ a c bs _ ?_;rw[HF.out,hPl];exact R.out
end Go.Proofs.YtnmlbeefjjohfaaGreatDoor.By
