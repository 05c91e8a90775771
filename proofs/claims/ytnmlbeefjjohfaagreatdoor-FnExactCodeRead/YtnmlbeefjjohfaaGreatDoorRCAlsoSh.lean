/-
  No statement is proved here.
-/
import Derived.Test.YtnmlbeefjjohfaaGreatDoorRHcAlsoSh
import Derived.Test.YtnmlbeefjjohfaaGreatDoorRHeAlsoSh
namespace Go.Proofs.YtnmlbeefjjohfaaGreatDoor.By
set_option maxRecDepth 100000
set_option maxHeartbeats 16000000
open Go.RowKit
set_option linter.unusedVariables false
set_option linter.unusedSimpArgs false
theorem head_f (t0 t1 t2 t4 t5 t7 t8 t9 t10 t11 t12 t13 t14 t15 t16 t17 t18 t19 t20 t21 t22 t23 t24 t25 t26 t27 t28 t29 t30 t31 t32 t33 t34 t35 t36 t37 t38 t39 t40 t41 t42 t43 t44 t45 t46 t47 t48 t49 t50 t51 t52 t53 t54 t55 t56 t57 t58 t59 t60 t61 t62 t63 t64 t65 t66 t67 t68 t69 t70 t71 t72 t73 t74 t75 t76 t77 t78 t79 t80 t81 t82 t83 t84 t85 t86 t87 t88 t89 t90 t91 t92 t93 t94 t95 t96 t97 t98 t99 t100 t101 t102 t103 t104 t105 t106 t107 t108 t109 t110 t111 t112 t113 t114 t115 t116 t117 t118 t119 t120 t121 t122 t123 t124 t125 t126 t127 t128 t129 t130 t131 t132 t133 t134 t135 t136:Value) (l1 p6:Nat) (y:RBlock) (e1:Option Addr) (f1 g1:Nat) (e2:Option Addr) (f2 g2:Nat) (e3:Option Addr) (f3 g3:Nat) (e4:Option Addr) (f4 g4:Nat) (e5:Option Addr) (f5 g5:Nat) (v9:World) (hbx:v9.heap[p6]? = some (Obj.cells #[.slice e1 f1 g1,.int .i64 y.argk,.int .i64 y.argn,.slice e2 f2 g2,.int .i64 y.resk,.int .i64 y.resn,.slice e3 f3 g3,.slice e4 f4 g4,.slice e5 f5 g5] 49)) (hrd:RdBlock v9 y e1 f1 e2 f2 e3 f3 e4 f4 e5 f5) (KK:Act→World→Prop) (Q:Exit→Act→World→Prop) (hQp:∀ c (a:Act) d v w',Q (.panic c) (a.put d v) w'→Q (.panic c) a w') (hA:(decide (y.env.len≤60) && lwF l1 y.env)=true) (hB:(decide (y.locs.len≤60) && lwF l1 y.locs)=true) (hC:(decide (((.cons y.argk y.argn y.argf (.cons y.resk y.resn y.resf (.cons 4 0 (.cons y.argk y.argn y.argf (.cons y.resk y.resn y.resf .nil)) .nil))):F).len≤3) && lwF l1 (.cons y.argk y.argn y.argf (.cons y.resk y.resn y.resf (.cons 4 0 (.cons y.argk y.argn y.argf (.cons y.resk y.resn y.resf .nil)) .nil))))=true) (hD':¬ (f5:Int) < 1) (hE':¬ (f5:Int) > 1000)
  (hK:∀ bb,bb=(!headK l1 y)→∀ (s84 s85 s86 s87 s88 s89 s90 s91 s92 s93 s94 s95 s96 s97 s98 s99 s100 s101 s102 s103 s104 s105 s106 s107 s108 s109 s110 s111 s112 s113 s114 s115 s116 s117 s118 s119 s120 s121:Value) ux,v9.grownBy ux none→KK ⟨#[t0,t1,t2,.int .i64 (l1:Int),t4,t5,.pointer (some ⟨p6,0,none⟩),t7,t8,t9,t10,t11,t12,t13,t14,t15,t16,t17,t18,t19,t20,t21,t22,t23,t24,t25,t26,t27,t28,t29,t30,t31,t32,t33,t34,t35,t36,t37,t38,t39,t40,t41,t42,t43,t44,t45,t46,t47,t48,t49,t50,t51,t52,t53,t54,t55,t56,t57,t58,t59,t60,t61,t62,t63,t64,t65,t66,t67,t68,t69,t70,t71,t72,t73,t74,t75,t76,t77,t78,t79,t80,t81,t82,t83,s84,s85,s86,s87,s88,s89,s90,s91,s92,s93,s94,s95,s96,s97,s98,s99,s100,s101,s102,s103,s104,s105,s106,s107,s108,s109,s110,s111,s112,s113,s114,s115,s116,s117,s118,s119,s120,s121,.bool bb,t123,t124,t125,t126,t127,t128,t129,t130,t131,t132,t133,t134,t135,t136],[]⟩ ux):Code.wp Tryz.prog reg13 (Exit.then KK Q) ⟨#[t0,t1,t2,.int .i64 (l1:Int),t4,t5,.pointer (some ⟨p6,0,none⟩),t7,t8,t9,t10,t11,t12,t13,t14,t15,t16,t17,t18,t19,t20,t21,t22,t23,t24,t25,t26,t27,t28,t29,t30,t31,t32,t33,t34,t35,t36,t37,t38,t39,t40,t41,t42,t43,t44,t45,t46,t47,t48,t49,t50,t51,t52,t53,t54,t55,t56,t57,t58,t59,t60,t61,t62,t63,t64,t65,t66,t67,t68,t69,t70,t71,t72,t73,t74,t75,t76,t77,t78,t79,t80,t81,t82,t83,t84,t85,t86,t87,t88,t89,t90,t91,t92,t93,t94,t95,t96,t97,t98,t99,t100,t101,t102,t103,t104,t105,t106,t107,t108,t109,t110,t111,t112,t113,t114,t115,t116,t117,t118,t119,t120,t121,t122,t123,t124,t125,t126,t127,t128,t129,t130,t131,t132,t133,t134,t135,t136],[]⟩ v9:=by
 have hcl:y.code.length=f5:=hrd.2.2.2.2.1;have hcm:f5≤9223372036854775807:=hrd.2.2.2.2.2.1
 have hDb:decide ((f5:Int) < 1)=false:=by simpa using hD'
 have hEb:decide ((f5:Int) > 1000)=false:=by simpa using hE'
 have hDv:decide (1≤y.code.length)=true:=by rw[hcl];simp;omega
 have hEv:decide (y.code.length≤1000)=true:=by rw[hcl];simp;omega
 have gd:=grown_drew (grf v9 none);obtain ⟨v0,hv0⟩:∃ u,u=v9.drew:=⟨_,rfl⟩
 have GB:Hid (v9.grownBy v0 none):=by rw[hv0];exact gd
 have Gv0:Hid (v0.grownBy v0 none):=grf _ _
 have SK:Hid (∀ u,v0.grownBy u none→(fun u:World=>u.cell? ⟨p6,0,none⟩=some (.slice e1 f1 g1)∧u.cell? ⟨p6,1,none⟩=some (.int .i64 y.argk)∧u.cell? ⟨p6,2,none⟩=some (.int .i64 y.argn)∧u.cell? ⟨p6,3,none⟩=some (.slice e2 f2 g2)∧u.cell? ⟨p6,4,none⟩=some (.int .i64 y.resk)∧u.cell? ⟨p6,5,none⟩=some (.int .i64 y.resn)∧u.cell? ⟨p6,6,none⟩=some (.slice e3 f3 g3)∧u.cell? ⟨p6,7,none⟩=some (.slice e4 f4 g4)∧u.cell? ⟨p6,8,none⟩=some (.slice e5 f5 g5)) u):=fun u hu=>by
  have g:=gtr GB.out hu;exact (blkBlock ((g.block _ (lbk hbx) (by simp)).trans hbx)).1
 have RB:Hid (∀ u,v0.grownBy u none→RdBlock u y e1 f1 e2 f2 e3 f3 e4 f4 e5 f5):=fun u hu=>hrd.none (gtr GB.out hu)
 have HK:Hid (∀ bb,bb=(!headK l1 y)→∀ (s84 s85 s86 s87 s88 s89 s90 s91 s92 s93 s94 s95 s96 s97 s98 s99 s100 s101 s102 s103 s104 s105 s106 s107 s108 s109 s110 s111 s112 s113 s114 s115 s116 s117 s118 s119 s120 s121:Value) ux,v9.grownBy ux none→KK ⟨#[t0,t1,t2,.int .i64 (l1:Int),t4,t5,.pointer (some ⟨p6,0,none⟩),t7,t8,t9,t10,t11,t12,t13,t14,t15,t16,t17,t18,t19,t20,t21,t22,t23,t24,t25,t26,t27,t28,t29,t30,t31,t32,t33,t34,t35,t36,t37,t38,t39,t40,t41,t42,t43,t44,t45,t46,t47,t48,t49,t50,t51,t52,t53,t54,t55,t56,t57,t58,t59,t60,t61,t62,t63,t64,t65,t66,t67,t68,t69,t70,t71,t72,t73,t74,t75,t76,t77,t78,t79,t80,t81,t82,t83,s84,s85,s86,s87,s88,s89,s90,s91,s92,s93,s94,s95,s96,s97,s98,s99,s100,s101,s102,s103,s104,s105,s106,s107,s108,s109,s110,s111,s112,s113,s114,s115,s116,s117,s118,s119,s120,s121,.bool bb,t123,t124,t125,t126,t127,t128,t129,t130,t131,t132,t133,t134,t135,t136],[]⟩ ux):=hK;clear gd hbx hrd hK
 conv=>arg 2;whnf
 refine wp_region_held_drew (S:=(fun u:World=>u.cell? ⟨p6,0,none⟩=some (.slice e1 f1 g1)∧u.cell? ⟨p6,1,none⟩=some (.int .i64 y.argk)∧u.cell? ⟨p6,2,none⟩=some (.int .i64 y.argn)∧u.cell? ⟨p6,3,none⟩=some (.slice e2 f2 g2)∧u.cell? ⟨p6,4,none⟩=some (.int .i64 y.resk)∧u.cell? ⟨p6,5,none⟩=some (.int .i64 y.resn)∧u.cell? ⟨p6,6,none⟩=some (.slice e3 f3 g3)∧u.cell? ⟨p6,7,none⟩=some (.slice e4 f4 g4)∧u.cell? ⟨p6,8,none⟩=some (.slice e5 f5 g5))) (by kernel_rfl) (by rw[← hv0];exact SK.out _ Gv0.out) (fun hH=>?_);rw[← hv0] at hH ⊢;clear hv0;simp only[sA9,lB,lC,Nat.reduceAdd,Array.replicate,List.replicate];refine tq 0 hQp ?_;refine tq 1 hQp ?_;refine tq 2 hQp ?_;have CTu1:=l8tysOkT y.env e1 f1 g1 60 l1 v0 (RB.out _ Gv0.out).1;refine rd 3 rfl (fun K hK=>?_);go_simp;refine Calls.mono (show Calls Tryz.prog 55 #[.slice e1 f1 g1,.int .i64 60,.int .i64 (l1:Int)] v0 fun e u=>e = .returned (.bool (decide (y.env.len≤60) && lwF l1 y.env))∧v0.grownBy u none from CTu1) ?_
 rintro e u1 ⟨he,hg⟩;subst he;have Gu1:Hid (v0.grownBy u1 none):=gtr Gv0.out hg;clear hg CTu1;refine hK.out _ _ (SK.out _ Gu1.out) ?_;clear hK K hH;intro hH;simp only[Act.put,nA,nB,nC,nD,nE,nF];rw[hA];refine tq 4 hQp ?_;refine tq 5 hQp ?_;refine tq 6 hQp ?_;refine tq 7 hQp ?_;refine tq 8 hQp ?_;have CTu2:=l8tysOkT y.locs e4 f4 g4 60 l1 u1 (RB.out _ Gu1.out).2.2.2.1;refine rd 9 rfl (fun K hK=>?_);go_simp;refine Calls.mono (show Calls Tryz.prog 55 #[.slice e4 f4 g4,.int .i64 60,.int .i64 (l1:Int)] u1 fun e u=>e = .returned (.bool (decide (y.locs.len≤60) && lwF l1 y.locs))∧u1.grownBy u none from CTu2) ?_;rintro e u2 ⟨he,hg⟩;subst he;have Gu2:Hid (v0.grownBy u2 none):=gtr Gu1.out hg;clear hg CTu2;refine hK.out _ _ (SK.out _ Gu2.out) ?_;clear hK K hH;intro hH;simp only[Act.put,nA,nB,nC,nD,nE,nF];rw[hB];refine tq 10 hQp ?_;refine tq 11 hQp ?_;refine tq 12 hQp ?_;refine tq 13 hQp ?_;refine tq 14 hQp ?_
 refine tq 15 hQp ?_;refine tq 16 hQp ?_;refine tq 17 hQp ?_;refine tq 18 hQp ?_;refine tq 19 hQp ?_;refine tq 20 hQp ?_;refine tq 23 hQp ?_;refine rd 21 rfl (fun K hK=>?_);go_simp;refine Calls.mono (l6funT y.argk y.argn y.resk y.resn e2 f2 g2 e3 f3 g3 u2) ?_;rintro e u3 ⟨gf,he,hg,hbf⟩;subst he;have Gu3:Hid (v0.grownBy u3 none):=gtr Gu2.out hg;have HBF:Hid (u3.heap[gf]? = some (Obj.cells #[.int .i64 y.argk,.int .i64 y.argn,.slice e2 f2 g2,.int .i64 y.resk,.int .i64 y.resn,.slice e3 f3 g3] 46)):=hbf;clear hg hbf;refine hK.out _ _ (SK.out _ Gu3.out) ?_;clear hK K hH;intro hH;simp only[Act.put,nA,nB,nC,nD,nE,nF];refine rd 22 rfl (fun K hK=>?_);go_simp;have ga:=gal u3 (.cells #[.int .i64 y.argk,.int .i64 y.argn,.slice e2 f2 g2,.int .i64 y.resk,.int .i64 y.resn,.slice e3 f3 g3,.int .i64 4,.int .i64 0,.slice (some ⟨gf,0,none⟩) 2 2] 46) none;have ba:=hnw u3 (.cells #[.int .i64 y.argk,.int .i64 y.argn,.slice e2 f2 g2,.int .i64 y.resk,.int .i64 y.resn,.slice e3 f3 g3,.int .i64 4,.int .i64 0,.slice (some ⟨gf,0,none⟩) 2 2] 46)
 have Gu4:Hid (v0.grownBy (u3.alloc (.cells #[.int .i64 y.argk,.int .i64 y.argn,.slice e2 f2 g2,.int .i64 y.resk,.int .i64 y.resn,.slice e3 f3 g3,.int .i64 4,.int .i64 0,.slice (some ⟨gf,0,none⟩) 2 2] 46)) none):=gtr Gu3.out ga
 have SF:SlF (u3.alloc (.cells #[.int .i64 y.argk,.int .i64 y.argn,.slice e2 f2 g2,.int .i64 y.resk,.int .i64 y.resn,.slice e3 f3 g3,.int .i64 4,.int .i64 0,.slice (some ⟨gf,0,none⟩) 2 2] 46)) (some ⟨u3.heap.size,0,none⟩) 3 (.cons y.argk y.argn y.argf (.cons y.resk y.resn y.resf (.cons 4 0 (.cons y.argk y.argn y.argf (.cons y.resk y.resn y.resf .nil)) .nil))):=by
  have hr:=RB.out _ Gu4.out;have hb6:=(ga.block _ (lbk HBF.out) (by simp)).trans HBF.out
  have cc:=fun j=>cell_of_row _ gf j _ _ (0,0) hb6
  have dd:=fun j=>cell_of_row _ u3.heap.size j _ _ (0,0) ba
  have fn:SlF (u3.alloc (.cells #[.int .i64 y.argk,.int .i64 y.argn,.slice e2 f2 g2,.int .i64 y.resk,.int .i64 y.resn,.slice e3 f3 g3,.int .i64 4,.int .i64 0,.slice (some ⟨gf,0,none⟩) 2 2] 46)) (some ⟨gf,0,none⟩) 2 (.cons y.argk y.argn y.argf (.cons y.resk y.resn y.resf .nil)):=⟨rfl,by omega,.inr ⟨_,_,rfl,InF.mk ((cc 0).trans rfl) ((cc 1).trans rfl) ((cc 2).trans rfl) hr.2.1 (InF.mk ((cc 3).trans rfl) ((cc 4).trans rfl) ((cc 5).trans rfl) hr.2.2.1 trivial)⟩⟩;exact ⟨rfl,by omega,.inr ⟨_,_,rfl,InF.mk ((dd 0).trans rfl) ((dd 1).trans rfl) ((dd 2).trans rfl) hr.2.1 (InF.mk ((dd 3).trans rfl) ((dd 4).trans rfl) ((dd 5).trans rfl) hr.2.2.1 (InF.mk ((dd 6).trans rfl) ((dd 7).trans rfl) ((dd 8).trans rfl) fn trivial))⟩⟩
 have HSF:Hid _:=SF;have hGEN:∃ p9,p9=u3.heap.size:=⟨_,rfl⟩;clear ga ba SF HBF;refine hK.out _ _ (SK.out _ Gu4.out) ?_;clear hK K hH;intro hH;simp only[Act.put,nA,nB,nC,nD,nE,nF];generalize u3.alloc (.cells #[.int .i64 y.argk,.int .i64 y.argn,.slice e2 f2 g2,.int .i64 y.resk,.int .i64 y.resn,.slice e3 f3 g3,.int .i64 4,.int .i64 0,.slice (some ⟨gf,0,none⟩) 2 2] 46)=u4 at *;generalize u3.heap.size=p9 at *;clear hGEN;have CTu5:=l8tysOkT (.cons y.argk y.argn y.argf (.cons y.resk y.resn y.resf (.cons 4 0 (.cons y.argk y.argn y.argf (.cons y.resk y.resn y.resf .nil)) .nil))) (some ⟨p9,0,none⟩) 3 3 3 l1 u4 HSF.out;refine rd 24 rfl (fun K hK=>?_);go_simp;refine Calls.mono (show Calls Tryz.prog 55 #[.slice (some ⟨p9,0,none⟩) 3 3,.int .i64 3,.int .i64 (l1:Int)] u4 fun e u=>e = .returned (.bool (decide (((.cons y.argk y.argn y.argf (.cons y.resk y.resn y.resf (.cons 4 0 (.cons y.argk y.argn y.argf (.cons y.resk y.resn y.resf .nil)) .nil))):F).len≤3) && lwF l1 (.cons y.argk y.argn y.argf (.cons y.resk y.resn y.resf (.cons 4 0 (.cons y.argk y.argn y.argf (.cons y.resk y.resn y.resf .nil)) .nil)))))∧u4.grownBy u none from CTu5) ?_
 rintro e u5 ⟨he,hg⟩;subst he;have Gu5:Hid (v0.grownBy u5 none):=gtr Gu4.out hg;clear hg CTu5;refine hK.out _ _ (SK.out _ Gu5.out) ?_;clear hK K hH;intro hH;simp only[Act.put,nA,nB,nC,nD,nE,nF];clear HSF;rw[hC];refine tq 25 hQp ?_;refine tq 26 hQp ?_;refine tq 27 hQp ?_;refine tq 28 hQp ?_;refine tq 29 hQp ?_;refine tq 30 hQp ?_;refine tq 31 hQp ?_;refine tq 32 hQp ?_;refine tq 33 hQp ?_;refine tq 34 hQp ?_;refine tq 35 hQp ?_;refine tq 36 hQp ?_;refine tq 37 hQp ?_;refine tq 38 hQp ?_;refine wpAnyH_done (by kernel_rfl) ?_ _;clear hH
 have E:headK l1 y=true:=by unfold headK;simp [hA,hB,hC,hDv,hEv]
 refine show KK _ _ from ?_;refine HK.out _ ?_ _ _ _ _ _ _ _ _ _ _ _ _ _ _ _ _ _ _ _ _ _ _ _ _ _ _ _ _ _ _ _ _ _ _ _ _ _ _ u5 (gtr GB.out Gu5.out);rw[E];rfl
theorem headT (t0 t1 t2 t4 t5 t7 t8 t9 t10 t11 t12 t13 t14 t15 t16 t17 t18 t19 t20 t21 t22 t23 t24 t25 t26 t27 t28 t29 t30 t31 t32 t33 t34 t35 t36 t37 t38 t39 t40 t41 t42 t43 t44 t45 t46 t47 t48 t49 t50 t51 t52 t53 t54 t55 t56 t57 t58 t59 t60 t61 t62 t63 t64 t65 t66 t67 t68 t69 t70 t71 t72 t73 t74 t75 t76 t77 t78 t79 t80 t81 t82 t83 t84 t85 t86 t87 t88 t89 t90 t91 t92 t93 t94 t95 t96 t97 t98 t99 t100 t101 t102 t103 t104 t105 t106 t107 t108 t109 t110 t111 t112 t113 t114 t115 t116 t117 t118 t119 t120 t121 t122 t123 t124 t125 t126 t127 t128 t129 t130 t131 t132 t133 t134 t135 t136:Value) (l1 p6:Nat) (y:RBlock) (e1:Option Addr) (f1 g1:Nat) (e2:Option Addr) (f2 g2:Nat) (e3:Option Addr) (f3 g3:Nat) (e4:Option Addr) (f4 g4:Nat) (e5:Option Addr) (f5 g5:Nat) (v9:World) (hbx:v9.heap[p6]? = some (Obj.cells #[.slice e1 f1 g1,.int .i64 y.argk,.int .i64 y.argn,.slice e2 f2 g2,.int .i64 y.resk,.int .i64 y.resn,.slice e3 f3 g3,.slice e4 f4 g4,.slice e5 f5 g5] 49)) (hrd:RdBlock v9 y e1 f1 e2 f2 e3 f3 e4 f4 e5 f5) (KK:Act→World→Prop) (Q:Exit→Act→World→Prop) (hQp:∀ c (a:Act) d v w',Q (.panic c) (a.put d v) w'→Q (.panic c) a w')
  (hK:∀ bb,bb=(!headK l1 y)→∀ (s84 s85 s86 s87 s88 s89 s90 s91 s92 s93 s94 s95 s96 s97 s98 s99 s100 s101 s102 s103 s104 s105 s106 s107 s108 s109 s110 s111 s112 s113 s114 s115 s116 s117 s118 s119 s120 s121:Value) ux,v9.grownBy ux none→KK ⟨#[t0,t1,t2,.int .i64 (l1:Int),t4,t5,.pointer (some ⟨p6,0,none⟩),t7,t8,t9,t10,t11,t12,t13,t14,t15,t16,t17,t18,t19,t20,t21,t22,t23,t24,t25,t26,t27,t28,t29,t30,t31,t32,t33,t34,t35,t36,t37,t38,t39,t40,t41,t42,t43,t44,t45,t46,t47,t48,t49,t50,t51,t52,t53,t54,t55,t56,t57,t58,t59,t60,t61,t62,t63,t64,t65,t66,t67,t68,t69,t70,t71,t72,t73,t74,t75,t76,t77,t78,t79,t80,t81,t82,t83,s84,s85,s86,s87,s88,s89,s90,s91,s92,s93,s94,s95,s96,s97,s98,s99,s100,s101,s102,s103,s104,s105,s106,s107,s108,s109,s110,s111,s112,s113,s114,s115,s116,s117,s118,s119,s120,s121,.bool bb,t123,t124,t125,t126,t127,t128,t129,t130,t131,t132,t133,t134,t135,t136],[]⟩ ux):Code.wp Tryz.prog reg13 (Exit.then KK Q) ⟨#[t0,t1,t2,.int .i64 (l1:Int),t4,t5,.pointer (some ⟨p6,0,none⟩),t7,t8,t9,t10,t11,t12,t13,t14,t15,t16,t17,t18,t19,t20,t21,t22,t23,t24,t25,t26,t27,t28,t29,t30,t31,t32,t33,t34,t35,t36,t37,t38,t39,t40,t41,t42,t43,t44,t45,t46,t47,t48,t49,t50,t51,t52,t53,t54,t55,t56,t57,t58,t59,t60,t61,t62,t63,t64,t65,t66,t67,t68,t69,t70,t71,t72,t73,t74,t75,t76,t77,t78,t79,t80,t81,t82,t83,t84,t85,t86,t87,t88,t89,t90,t91,t92,t93,t94,t95,t96,t97,t98,t99,t100,t101,t102,t103,t104,t105,t106,t107,t108,t109,t110,t111,t112,t113,t114,t115,t116,t117,t118,t119,t120,t121,t122,t123,t124,t125,t126,t127,t128,t129,t130,t131,t132,t133,t134,t135,t136],[]⟩ v9:=by
 cases hA:(decide (y.env.len≤60) && lwF l1 y.env) with
 | false=>exact head_a t0 t1 t2 t4 t5 t7 t8 t9 t10 t11 t12 t13 t14 t15 t16 t17 t18 t19 t20 t21 t22 t23 t24 t25 t26 t27 t28 t29 t30 t31 t32 t33 t34 t35 t36 t37 t38 t39 t40 t41 t42 t43 t44 t45 t46 t47 t48 t49 t50 t51 t52 t53 t54 t55 t56 t57 t58 t59 t60 t61 t62 t63 t64 t65 t66 t67 t68 t69 t70 t71 t72 t73 t74 t75 t76 t77 t78 t79 t80 t81 t82 t83 t84 t85 t86 t87 t88 t89 t90 t91 t92 t93 t94 t95 t96 t97 t98 t99 t100 t101 t102 t103 t104 t105 t106 t107 t108 t109 t110 t111 t112 t113 t114 t115 t116 t117 t118 t119 t120 t121 t122 t123 t124 t125 t126 t127 t128 t129 t130 t131 t132 t133 t134 t135 t136 l1 p6 y e1 f1 g1 e2 f2 g2 e3 f3 g3 e4 f4 g4 e5 f5 g5 v9 hbx hrd KK Q hQp hA hK
 | true =>
 cases hB:(decide (y.locs.len≤60) && lwF l1 y.locs) with
 | false=>exact head_b t0 t1 t2 t4 t5 t7 t8 t9 t10 t11 t12 t13 t14 t15 t16 t17 t18 t19 t20 t21 t22 t23 t24 t25 t26 t27 t28 t29 t30 t31 t32 t33 t34 t35 t36 t37 t38 t39 t40 t41 t42 t43 t44 t45 t46 t47 t48 t49 t50 t51 t52 t53 t54 t55 t56 t57 t58 t59 t60 t61 t62 t63 t64 t65 t66 t67 t68 t69 t70 t71 t72 t73 t74 t75 t76 t77 t78 t79 t80 t81 t82 t83 t84 t85 t86 t87 t88 t89 t90 t91 t92 t93 t94 t95 t96 t97 t98 t99 t100 t101 t102 t103 t104 t105 t106 t107 t108 t109 t110 t111 t112 t113 t114 t115 t116 t117 t118 t119 t120 t121 t122 t123 t124 t125 t126 t127 t128 t129 t130 t131 t132 t133 t134 t135 t136 l1 p6 y e1 f1 g1 e2 f2 g2 e3 f3 g3 e4 f4 g4 e5 f5 g5 v9 hbx hrd KK Q hQp hA hB hK
 | true =>
 cases hC:(decide (((.cons y.argk y.argn y.argf (.cons y.resk y.resn y.resf (.cons 4 0 (.cons y.argk y.argn y.argf (.cons y.resk y.resn y.resf .nil)) .nil))):F).len≤3) && lwF l1 (.cons y.argk y.argn y.argf (.cons y.resk y.resn y.resf (.cons 4 0 (.cons y.argk y.argn y.argf (.cons y.resk y.resn y.resf .nil)) .nil)))) with
 | false=>exact head_c t0 t1 t2 t4 t5 t7 t8 t9 t10 t11 t12 t13 t14 t15 t16 t17 t18 t19 t20 t21 t22 t23 t24 t25 t26 t27 t28 t29 t30 t31 t32 t33 t34 t35 t36 t37 t38 t39 t40 t41 t42 t43 t44 t45 t46 t47 t48 t49 t50 t51 t52 t53 t54 t55 t56 t57 t58 t59 t60 t61 t62 t63 t64 t65 t66 t67 t68 t69 t70 t71 t72 t73 t74 t75 t76 t77 t78 t79 t80 t81 t82 t83 t84 t85 t86 t87 t88 t89 t90 t91 t92 t93 t94 t95 t96 t97 t98 t99 t100 t101 t102 t103 t104 t105 t106 t107 t108 t109 t110 t111 t112 t113 t114 t115 t116 t117 t118 t119 t120 t121 t122 t123 t124 t125 t126 t127 t128 t129 t130 t131 t132 t133 t134 t135 t136 l1 p6 y e1 f1 g1 e2 f2 g2 e3 f3 g3 e4 f4 g4 e5 f5 g5 v9 hbx hrd KK Q hQp hA hB hC hK
 | true =>
 by_cases hD:(f5:Int) < 1
 ·
  exact head_d t0 t1 t2 t4 t5 t7 t8 t9 t10 t11 t12 t13 t14 t15 t16 t17 t18 t19 t20 t21 t22 t23 t24 t25 t26 t27 t28 t29 t30 t31 t32 t33 t34 t35 t36 t37 t38 t39 t40 t41 t42 t43 t44 t45 t46 t47 t48 t49 t50 t51 t52 t53 t54 t55 t56 t57 t58 t59 t60 t61 t62 t63 t64 t65 t66 t67 t68 t69 t70 t71 t72 t73 t74 t75 t76 t77 t78 t79 t80 t81 t82 t83 t84 t85 t86 t87 t88 t89 t90 t91 t92 t93 t94 t95 t96 t97 t98 t99 t100 t101 t102 t103 t104 t105 t106 t107 t108 t109 t110 t111 t112 t113 t114 t115 t116 t117 t118 t119 t120 t121 t122 t123 t124 t125 t126 t127 t128 t129 t130 t131 t132 t133 t134 t135 t136 l1 p6 y e1 f1 g1 e2 f2 g2 e3 f3 g3 e4 f4 g4 e5 f5 g5 v9 hbx hrd KK Q hQp hA hB hC hD hK
 by_cases hE:(f5:Int) > 1000
 ·
  exact head_e t0 t1 t2 t4 t5 t7 t8 t9 t10 t11 t12 t13 t14 t15 t16 t17 t18 t19 t20 t21 t22 t23 t24 t25 t26 t27 t28 t29 t30 t31 t32 t33 t34 t35 t36 t37 t38 t39 t40 t41 t42 t43 t44 t45 t46 t47 t48 t49 t50 t51 t52 t53 t54 t55 t56 t57 t58 t59 t60 t61 t62 t63 t64 t65 t66 t67 t68 t69 t70 t71 t72 t73 t74 t75 t76 t77 t78 t79 t80 t81 t82 t83 t84 t85 t86 t87 t88 t89 t90 t91 t92 t93 t94 t95 t96 t97 t98 t99 t100 t101 t102 t103 t104 t105 t106 t107 t108 t109 t110 t111 t112 t113 t114 t115 t116 t117 t118 t119 t120 t121 t122 t123 t124 t125 t126 t127 t128 t129 t130 t131 t132 t133 t134 t135 t136 l1 p6 y e1 f1 g1 e2 f2 g2 e3 f3 g3 e4 f4 g4 e5 f5 g5 v9 hbx hrd KK Q hQp hA hB hC hD hE hK
 ·
  exact head_f t0 t1 t2 t4 t5 t7 t8 t9 t10 t11 t12 t13 t14 t15 t16 t17 t18 t19 t20 t21 t22 t23 t24 t25 t26 t27 t28 t29 t30 t31 t32 t33 t34 t35 t36 t37 t38 t39 t40 t41 t42 t43 t44 t45 t46 t47 t48 t49 t50 t51 t52 t53 t54 t55 t56 t57 t58 t59 t60 t61 t62 t63 t64 t65 t66 t67 t68 t69 t70 t71 t72 t73 t74 t75 t76 t77 t78 t79 t80 t81 t82 t83 t84 t85 t86 t87 t88 t89 t90 t91 t92 t93 t94 t95 t96 t97 t98 t99 t100 t101 t102 t103 t104 t105 t106 t107 t108 t109 t110 t111 t112 t113 t114 t115 t116 t117 t118 t119 t120 t121 t122 t123 t124 t125 t126 t127 t128 t129 t130 t131 t132 t133 t134 t135 t136 l1 p6 y e1 f1 g1 e2 f2 g2 e3 f3 g3 e4 f4 g4 e5 f5 g5 v9 hbx hrd KK Q hQp hA hB hC hD hE hK
theorem l8programOkT (x:RProg) (a1:Option Addr) (l1 c1:Nat) (a2:Option Addr) (l2 c2:Nat) (a3:Option Addr) (l3 c3:Nat) (w:World) (h:RdProg w x a1 l1 a2 l2 a3 l3) :
  Calls Tryz.prog 34 #[.agg #[.slice a1 l1 c1,.slice a2 l2 c2,.slice a3 l3 c3]] w fun e u=>e = .returned (.bool (standsV x))∧w.grownBy u none:=by
 have g0:=gal w (.cells #[.slice a1 l1 c1,.slice a2 l2 c2,.slice a3 l3 c3] 27) none;have b0:=hnw w (.cells #[.slice a1 l1 c1,.slice a2 l2 c2,.slice a3 l3 c3] 27)
 have HS:Hid (∀ u,w.grownBy u none→RdProg u x a1 l1 a2 l2 a3 l3):=fun u hu=>h.none hu
 have C0:Hid _:=l7layoutsOkT x.lays a1 l1 c1 (w.alloc (.cells #[.slice a1 l1 c1,.slice a2 l2 c2,.slice a3 l3 c3] 27)) (h.none g0).1;have L0:Hid (w.grownBy _ none∧_=some (Obj.cells #[.slice a1 l1 c1,.slice a2 l2 c2,.slice a3 l3 c3] 27)):=⟨g0,b0⟩;have e1:x.lays.length=l1:=h.1.1;have e2:x.blks.length=l2:=h.2.1.1;have e3:x.caps.length=l3:=h.2.2.1.1;have m1:=h.1.2.1;have m2:=h.2.1.2.1;have m3:=h.2.2.2
 have HV:Hid (standsV x=(decide (1≤l2) && decide (l2≤150) && (laysV x.lays && capsV x.caps && !x.blks.any fun b=>!blockV l1 b))):=by show _=_;unfold standsV;rw[e1,e2]
 have HCL:Hid (capsV x.caps=true→l3≤5):=fun e=>by rw[← e3];exact capsV_len5 e
 obtain ⟨⟨y0,y1,y2⟩,-⟩:=blkProg b0;clear h g0 b0 e1 e2;go_enter Tryz.func34,Tryz.ntmps34;go_wp2_with fail;refine Calls.mono C0.out ?_;rintro e u0 ⟨he,hg⟩;subst he;have L1:Hid (w.grownBy u0 none∧u0.heap[w.heap.size]? = some (Obj.cells #[.slice a1 l1 c1,.slice a2 l2 c2,.slice a3 l3 c3] 27)):=⟨gtr L0.out.1 hg,(hg.block _ (lbk L0.out.2) (by simp)).trans L0.out.2⟩;clear C0 L0 hg y0 y1 y2;generalize w.heap.size=p0 at *;simp only[];obtain ⟨⟨y0,y1,y2⟩,-⟩:=blkProg L1.out.2
 cases hla:laysV x.lays with
 | false =>
  have E:Hid (standsV x=false):=by show _=_;rw[HV.out,hla];simp
  go_wp2;go_ret;exact ⟨by rw[E.out];rfl,L1.out.1⟩
 | true =>
  by_cases q1:l2 < 1
  ·
   have q1':(l2:Int) < 1:=by omega
   have E:Hid (standsV x=false):=by
    show _=_
    have:decide (1≤l2)=false:=by simp;omega
    rw[HV.out,this];simp
   go_wp2;go_ret;exact ⟨by rw[E.out];rfl,L1.out.1⟩
  have q1':¬ (l2:Int) < 1:=by omega
  have q1t:decide (1≤l2)=true:=by simp;omega
  by_cases q2:150 < l2
  ·
   have q2':(l2:Int) > 150:=by omega
   have E:Hid (standsV x=false):=by
    show _=_
    have:decide (l2≤150)=false:=by simp;omega
    rw[HV.out,this];simp
   go_wp2;go_ret;exact ⟨by rw[E.out];rfl,L1.out.1⟩
  have q2':¬ (l2:Int) > 150:=by omega
  have q2t:decide (l2≤150)=true:=by simp;omega
  by_cases q3:5 < l3
  ·
   have q3':(l3:Int) > 5:=by omega
   have E:Hid (standsV x=false):=by
    show _=_
    cases hca:capsV x.caps with
    | true=>have:=HCL.out hca;omega
    | false=>rw[HV.out,hca];simp
   go_wp2;go_ret;exact ⟨by rw[E.out];rfl,L1.out.1⟩
  have q3':¬ (l3:Int) > 5:=by omega
  have HW:Hid (standsV x=(capsV x.caps && !x.blks.any fun b=>!blockV l1 b)):=by show _=_;rw[HV.out,q1t,q2t,hla];rfl
  clear HV q1t q2t hla HCL
  have HCA:Hid (0 < l3→∃ b ob,a3=some ⟨b,ob,none⟩∧∀ i,i < l3→w.cell? ⟨b,ob+i,none⟩=some (.int .i64 (x.caps.getD i 0))):=fun hp=>by
   rcases (HS.out w (grf _ _)).2.2.1.2 with h|⟨b,ob,e,hc⟩
   ·
    omega
   ·
    exact ⟨b,ob,e,hc⟩
  go_wp2;clear y0 y1 y2
  go_loopw [4] (fun i wr=>∃ (j:Nat) (pv:Int),j≤l3∧i = .int .i64 j∧Hid (w.grownBy wr none∧wr.heap[p0]? = some (Obj.cells #[.slice a1 l1 c1,.slice a2 l2 c2,.slice a3 l3 c3] 27)∧capsV x.caps=capsR (decide (j=0)) pv (x.caps.drop j)∧(∀ m,j=m+1→pv=x.caps.getD m 0))) (fun i _=>l3 - (intOf i).toNat)
  case atStart=>exact ⟨0,0,Nat.zero_le _,rfl,L1.out.1,L1.out.2,rfl,fun m hm=>by omega⟩
  case round =>
   clear L1;obtain ⟨j,pv,hj,rfl,HR⟩:=hrel;obtain ⟨⟨y0,y1,y2⟩,-⟩:=blkProg HR.out.2.1;by_cases hlt:j < l3
   ·
    obtain ⟨b,ob,rfl,hc⟩:=HCA.out (by omega);have k0:=HR.out.1.cell (hc j hlt) (by simp);have hst:=capsR_step x.caps j (decide (j=0)) pv (by omega);have HS2:Hid (capsV x.caps=(decide (0≤x.caps.getD j 0) && decide (x.caps.getD j 0≤4) && (decide (j=0) || decide (pv < x.caps.getD j 0)) && capsR false (x.caps.getD j 0) (x.caps.drop (j+1)))):=HR.out.2.2.1.trans hst;have HP:=HR.out.2.2.2
    have HZ:Hid (∀ m,j+1=m+1→x.caps.getD j 0=x.caps.getD m 0):=fun m hm=>by rw[show j=m by omega]
    have FX:Hid (∀ nq,w.grownBy (wr.drewN nq) none∧(wr.drewN nq).heap[p0]? = some (Obj.cells #[.slice a1 l1 c1,.slice a2 l2 c2,.slice (some ⟨b,ob,none⟩) l3 c3] 27)):=fun nq=>⟨gtr HR.out.1 (grown_drewN wr nq none),((grown_drewN wr nq none).block _ (lbk HR.out.2.1) (by simp)).trans HR.out.2.1⟩
    have hji:(j:Int) < (l3:Int):=by omega
    have HW0:Hid (w.grownBy wr none):=HR.out.1;clear HR hst;generalize x.caps.getD j 0=z at *;by_cases z0:z < 0
    ·
     have E:Hid (standsV x=false):=by (show _=_;rw[HW.out,HS2.out,show decide (0≤z)=false by (simp;omega)];simp)
     have z0b:decide (z < 0)=true:=by simpa using z0
     clear HP;go_wp2;go_quiet (fail);go_wp2;go_ret;exact ⟨by rw[E.out];rfl,(FX.out _).1⟩
    have z0b:decide (z < 0)=false:=by simpa using z0
    by_cases z4:z > 4
    ·
     have E:Hid (standsV x=false):=by (show _=_;rw[HW.out,HS2.out,show decide (z≤4)=false by (simp;omega)];simp)
     have z4b:decide (z > 4)=true:=by simpa using z4
     clear HP;go_wp2;go_quiet (fail);go_wp2;go_ret;exact ⟨by rw[E.out];rfl,(FX.out _).1⟩
    have z4b:decide (z > 4)=false:=by simpa using z4
    have e0:decide (0≤z)=true:=by simp;omega
    have e4:decide (z≤4)=true:=by simp;omega
    have z0c:¬ z < 0:=z0;have z4c:¬ z > 4:=z4
    cases j with
    | zero =>
     have E:Hid (capsV x.caps=capsR (decide (0+1=0)) z (x.caps.drop (0+1))):=by show _=_;rw[HS2.out,e0,e4];rfl
     clear HS2 HP e0 e4;rw[Nat.add_zero] at k0
     have hpb:decide ((0:Int) > 0)=false:=by simp
     go_wp2;go_quiet (fail);go_wp2;go_roundw
     case rel=>exact ⟨0+1,z,by omega,by go_num,(FX.out _).1,(FX.out _).2,E.out,HZ.out⟩
     case measure=>simp [intOf];omega
    | succ m =>
     obtain rfl:=HP m rfl;have k1:=HW0.out.cell (hc m (by omega)) (by simp);clear HP;generalize x.caps.getD m 0=y at *
     have hpos:((m:Int)+1) > 0:=by omega
     have hpb:decide (((m:Int)+1) > 0)=true:=decide_eq_true hpos;by_cases hzy:z≤y
     ·
      have E:Hid (standsV x=false):=by (show _=_;rw[HW.out,HS2.out,e0,e4,show decide (y < z)=false by (simp;omega)];simp)
      have hzb:decide (z≤y)=true:=by simpa using hzy
      clear HS2 e0 e4;go_wp2;go_quiet (fail);go_wp2;go_ret;exact ⟨by rw[E.out];rfl,(FX.out _).1⟩
     ·
      have E:Hid (capsV x.caps=capsR (decide (m+1+1=0)) z (x.caps.drop (m+1+1))):=by (show _=_;rw[HS2.out,e0,e4,show decide (y < z)=true by (simp;omega)];simp)
      have hzb:decide (z≤y)=false:=by simpa using hzy
      clear HS2 e0 e4;go_wp2;go_quiet (fail);go_wp2;go_roundw
      case rel=>exact ⟨m+1+1,z,by omega,by go_num,(FX.out _).1,(FX.out _).2,E.out,HZ.out⟩
      case measure=>simp [intOf];omega
   ·
    obtain rfl:j=l3:=by omega
    have E2:Hid (capsV x.caps=true):=by show _=_;rw[HR.out.2.2.1,List.drop_of_length_le (by omega)];rfl
    have K0:Hid (w.grownBy wr none∧wr.heap[p0]? = some (Obj.cells #[.slice a1 l1 c1,.slice a2 l2 c2,.slice a3 j c3] 27)∧standsV x = !x.blks.any fun b=>!blockV l1 b):=⟨HR.out.1,HR.out.2.1,by rw[HW.out,E2.out];rfl⟩;clear HR HW E2
    have HBY:Hid (∀ b ob,a2=some ⟨b,ob,none⟩→0 < l2→InBlock w w x.blks b ob):=fun b ob e hp=>by
     rcases (HS.out w (grf _ _)).2.1.cases with ⟨h,_⟩|⟨b',ob',h,hi,_⟩
     ·
      omega
     ·
      rw[e] at h;injection h with h;injection h with h1 h2;subst h1 h2;exact hi
    have HBA:Hid (0 < l2→∃ b ob,a2=some ⟨b,ob,none⟩):=fun hp=>by
     rcases (HS.out w (grf _ _)).2.1.cases with ⟨h,_⟩|⟨b',ob',h,hi,_⟩
     ·
      omega
     ·
      exact ⟨b',ob',h⟩
    have hbl:x.blks.length=l2:=(HS.out w (grf _ _)).2.1.1;go_wp2;clear y0 y1 y2
    go_loopw [5] (fun i ww=>∃ (m:Nat) (Q:List RBlock),m≤l2∧i = .int .i64 m∧Q.length+m=l2∧Hid (w.grownBy ww none∧ww.heap[p0]? = some (Obj.cells #[.slice a1 l1 c1,.slice a2 l2 c2,.slice a3 j c3] 27)∧(standsV x = !Q.any fun b=>!blockV l1 b)∧∀ b ob,a2=some ⟨b,ob,none⟩→0 < l2→InBlock w w Q b (ob+m * 9))) (fun i _=>l2 - (intOf i).toNat)
    case atStart=>exact ⟨0,x.blks,Nat.zero_le _,rfl,by omega,K0.out.1,K0.out.2.1,K0.out.2.2,fun b ob e hp=>by simpa using HBY.out b ob e hp⟩
    case round =>
     clear K0;obtain ⟨m,Q,hm,rfl,hQl,HQ⟩:=hrel;obtain ⟨⟨y0,y1,y2⟩,-⟩:=blkProg HQ.out.2.1;by_cases hlt2:m < l2
     ·
      obtain ⟨y,Q',rfl⟩:∃ x R',Q=x::R':=by
       cases Q with
       | nil=>simp at hQl;omega
       | cons x R'=>exact ⟨x,R',rfl⟩
      obtain ⟨b,ob,rfl⟩:=HBA.out (by omega);obtain ⟨hg,hbx,hv,hin⟩:=HQ.out;obtain ⟨⟨e1,f1,g1,e2,f2,g2,e3',f3,g3,e4,f4,g4,e5,f5,g5,⟨k0,k1,k2,k3,k4,k5,k6,k7,k8⟩,hd⟩,hQ2⟩:=hin b ob rfl (by omega);rw[show ob+m * 9+9=ob+(m+1) * 9 by omega] at hQ2;simp only[lB] at hQl;simp only[List.any_cons] at hv;have k0:=hg.cell k0 (by simp);have k1:=hg.cell k1 (by simp);have k2:=hg.cell k2 (by simp);have k3:=hg.cell k3 (by simp);have k4:=hg.cell k4 (by simp);have k5:=hg.cell k5 (by simp);have k6:=hg.cell k6 (by simp);have k7:=hg.cell k7 (by simp);have k8:=hg.cell k8 (by simp)
      have hmi:(m:Int) < (l2:Int):=by omega
      have ga:=gal wr (.cells #[.slice e1 f1 g1,.int .i64 y.argk,.int .i64 y.argn,.slice e2 f2 g2,.int .i64 y.resk,.int .i64 y.resn,.slice e3' f3 g3,.slice e4 f4 g4,.slice e5 f5 g5] 49) none;have ba:=hnw wr (.cells #[.slice e1 f1 g1,.int .i64 y.argk,.int .i64 y.argn,.slice e2 f2 g2,.int .i64 y.resk,.int .i64 y.resn,.slice e3' f3 g3,.slice e4 f4 g4,.slice e5 f5 g5] 49);have N0:Hid (w.grownBy (wr.alloc (.cells #[.slice e1 f1 g1,.int .i64 y.argk,.int .i64 y.argn,.slice e2 f2 g2,.int .i64 y.resk,.int .i64 y.resn,.slice e3' f3 g3,.slice e4 f4 g4,.slice e5 f5 g5] 49)) none∧(wr.alloc (.cells #[.slice e1 f1 g1,.int .i64 y.argk,.int .i64 y.argn,.slice e2 f2 g2,.int .i64 y.resk,.int .i64 y.resn,.slice e3' f3 g3,.slice e4 f4 g4,.slice e5 f5 g5] 49)).heap[wr.heap.size]? = some (Obj.cells #[.slice e1 f1 g1,.int .i64 y.argk,.int .i64 y.argn,.slice e2 f2 g2,.int .i64 y.resk,.int .i64 y.resn,.slice e3' f3 g3,.slice e4 f4 g4,.slice e5 f5 g5] 49)∧(wr.alloc (.cells #[.slice e1 f1 g1,.int .i64 y.argk,.int .i64 y.argn,.slice e2 f2 g2,.int .i64 y.resk,.int .i64 y.resn,.slice e3' f3 g3,.slice e4 f4 g4,.slice e5 f5 g5] 49)).heap[p0]? = some (Obj.cells #[.slice a1 l1 c1,.slice (some ⟨b,ob,none⟩) l2 c2,.slice a3 j c3] 27)):=⟨gtr hg ga,ba,(ga.block _ (lbk hbx) (by simp)).trans hbx⟩
      have FX:Hid ((standsV x = !((!blockV l1 y) || Q'.any fun b=>!blockV l1 b))∧(∀ b' ob',some (⟨b,ob,none⟩:Addr)=some ⟨b',ob',none⟩→0 < l2→InBlock w w Q' b' (ob' + (m+1) * 9))∧RdBlock w y e1 f1 e2 f2 e3' f3 e4 f4 e5 f5):=⟨hv,fun b' ob' e _=>by injection e with e;injection e with h1 h2;subst h1 h2;exact hQ2,hd⟩;clear hg hbx hv hin hd hQ2 HQ ga ba;go_upto_region 13 with fail;clear k0 k1 k2 k3 k4 k5 k6 k7 k8 y0 y1 y2;generalize wr.alloc (.cells #[.slice e1 f1 g1,.int .i64 y.argk,.int .i64 y.argn,.slice e2 f2 g2,.int .i64 y.resk,.int .i64 y.resn,.slice e3' f3 g3,.slice e4 f4 g4,.slice e5 f5 g5] 49)=v9 at *;generalize wr.heap.size=p6 at *;refine headT _ _ _ _ _ _ _ _ _ _ _ _ _ _ _ _ _ _ _ _ _ _ _ _ _ _ _ _ _ _ _ _ _ _ _ _ _ _ _ _ _ _ _ _ _ _ _ _ _ _ _ _ _ _ _ _ _ _ _ _ _ _ _ _ _ _ _ _ _ _ _ _ _ _ _ _ _ _ _ _ _ _ _ _ _ _ _ _ _ _ _ _ _ _ _ _ _ _ _ _ _ _ _ _ _ _ _ _ _ _ _ _ _ _ _ _ _ _ _ _ _ _ _ _ _ _ _ _ _ _ _ _ _ _ _ l1 p6 y e1 f1 g1 e2 f2 g2 e3' f3 g3 e4 f4 g4 e5 f5 g5 v9 N0.out.2.1 (FX.out.2.2.none N0.out.1) _ _ (fun _ _ d _ _ h=>by cases d <;> exact h) ?_
      intro bb hbb s84 s85 s86 s87 s88 s89 s90 s91 s92 s93 s94 s95 s96 s97 s98 s99 s100 s101 s102 s103 s104 s105 s106 s107 s108 s109 s110 s111 s112 s113 s114 s115 s116 s117 s118 s119 s120 s121 ux gux;have N1:Hid (w.grownBy ux none∧ux.heap[p6]? = some (Obj.cells #[.slice e1 f1 g1,.int .i64 y.argk,.int .i64 y.argn,.slice e2 f2 g2,.int .i64 y.resk,.int .i64 y.resn,.slice e3' f3 g3,.slice e4 f4 g4,.slice e5 f5 g5] 49)∧ux.heap[p0]? = some (Obj.cells #[.slice a1 l1 c1,.slice (some ⟨b,ob,none⟩) l2 c2,.slice a3 j c3] 27)):=⟨gtr N0.out.1 gux,(gux.block _ (lbk N0.out.2.1) (by simp)).trans N0.out.2.1,(gux.block _ (lbk N0.out.2.2) (by simp)).trans N0.out.2.2⟩;clear N0 gux
      cases hh:headK l1 y with
      | false =>
       rw[hh] at hbb;obtain rfl:bb=true:=hbb
       have E:Hid (standsV x=false):=by
        show _=_
        have hb0:blockV l1 y=false:=by rw[← headK_eq,hh];rfl
        rw[FX.out.1,hb0];rfl
       clear hh;go_wp2;go_ret;exact ⟨by rw[E.out];rfl,N1.out.1⟩
      | true =>
       rw[hh] at hbb;obtain rfl:bb=false:=hbb
       have HE:Hid (standsV x = !((y.code.any fun x=>!insV x) || Q'.any fun b=>!blockV l1 b)):=by
        show _=_
        rw[FX.out.1,← headK_eq,hh];simp
       have hcl:y.code.length=f5:=FX.out.2.2.2.2.2.2.1;have hcm:f5≤9223372036854775807:=FX.out.2.2.2.2.2.2.2.1
       have HCY:Hid (∀ b ob,e5=some ⟨b,ob,none⟩→0 < f5→InIns w w y.code b ob):=fun b ob e hp=>by
        rcases FX.out.2.2.2.2.2.2.2.2 with h|⟨b',ob',h,hi⟩
        ·
         omega
        ·
         rw[e] at h;injection h with h;injection h with h1 h2;subst h1 h2;exact hi
       have HCA2:Hid (0 < f5→∃ b ob,e5=some ⟨b,ob,none⟩):=fun hp=>by
        rcases FX.out.2.2.2.2.2.2.2.2 with h|⟨b',ob',h,hi⟩
        ·
         omega
        ·
         exact ⟨b',ob',h⟩
       have FX2:Hid (∀ b' ob',some (⟨b,ob,none⟩:Addr)=some ⟨b',ob',none⟩→0 < l2→InBlock w w Q' b' (ob' + (m+1) * 9)):=FX.out.2.1;clear hh FX;go_wp2
       go_loopw [7] (fun i ww=>∃ (k:Nat) (R:List RIns),k≤f5∧i = .int .i64 k∧R.length+k=f5∧Hid (w.grownBy ww none∧ww.heap[p6]? = some (Obj.cells #[.slice e1 f1 g1,.int .i64 y.argk,.int .i64 y.argn,.slice e2 f2 g2,.int .i64 y.resk,.int .i64 y.resn,.slice e3' f3 g3,.slice e4 f4 g4,.slice e5 f5 g5] 49)∧ww.heap[p0]? = some (Obj.cells #[.slice a1 l1 c1,.slice (some ⟨b,ob,none⟩) l2 c2,.slice a3 j c3] 27)∧(standsV x = !((R.any fun x=>!insV x) || Q'.any fun b=>!blockV l1 b))∧∀ b ob,e5=some ⟨b,ob,none⟩→0 < f5→InIns w w R b (ob+k * 5))) (fun i _=>f5 - (intOf i).toNat)
       case atStart=>exact ⟨0,y.code,Nat.zero_le _,rfl,by omega,N1.out.1,N1.out.2.1,N1.out.2.2,HE.out,fun b ob e hp=>by simpa using HCY.out b ob e hp⟩
       case round =>
        clear N1 HE;obtain ⟨k,R,hk,rfl,hRl,HR3⟩:=hrel;obtain ⟨⟨k0,k1,k2,k3,k4,k5,k6,k7,k8⟩,-⟩:=blkBlock HR3.out.2.1;clear k0 k1 k2 k3 k4 k5 k6 k7;by_cases hlt3:k < f5
        ·
         obtain ⟨z,R',rfl⟩:∃ x R',R=x::R':=by
          cases R with
          | nil=>simp at hRl;omega
          | cons x R'=>exact ⟨x,R',rfl⟩
         obtain ⟨b5,o5,rfl⟩:=HCA2.out (by omega);obtain ⟨hg,hb6,hb0,hv,hin⟩:=HR3.out;obtain ⟨⟨za1,zl1,zc1,za2,zl2,zc2,⟨n0,n1,n2,n3,n4⟩,hd⟩,hR2⟩:=hin b5 o5 rfl (by omega);rw[show o5+k * 5+5=o5+(k+1) * 5 by omega] at hR2;simp only[lB] at hRl;simp only[List.any_cons] at hv;have n0:=hg.cell n0 (by simp);have n1:=hg.cell n1 (by simp);have n2:=hg.cell n2 (by simp);have n3:=hg.cell n3 (by simp);have n4:=hg.cell n4 (by simp);have CC:Hid _:=specInsT z za1 zl1 zc1 za2 zl2 zc2 wr (hd.none hg);have FZ:Hid (w.grownBy wr none∧wr.heap[p6]? = some (Obj.cells #[.slice e1 f1 g1,.int .i64 y.argk,.int .i64 y.argn,.slice e2 f2 g2,.int .i64 y.resk,.int .i64 y.resn,.slice e3' f3 g3,.slice e4 f4 g4,.slice (some ⟨b5,o5,none⟩) f5 g5] 49)∧wr.heap[p0]? = some (Obj.cells #[.slice a1 l1 c1,.slice (some ⟨b,ob,none⟩) l2 c2,.slice a3 j c3] 27)∧(standsV x = !(((!insV z) || R'.any fun x=>!insV x) || Q'.any fun b=>!blockV l1 b))∧∀ b ob,some (⟨b5,o5,none⟩:Addr)=some ⟨b,ob,none⟩→0 < f5→InIns w w R' b (ob+(k+1) * 5)):=⟨hg,hb6,hb0,hv,fun b ob e _=>by injection e with e;injection e with h1 h2;subst h1 h2;exact hR2⟩
         clear hg hb6 hb0 hv hin hd hR2 HR3;go_wp2_with fail;refine Calls.mono CC.out ?_;rintro e u7 ⟨he,hgu⟩;rw[specIns_eq] at he;subst he;have FW:Hid (w.grownBy u7 none∧u7.heap[p6]? = some (Obj.cells #[.slice e1 f1 g1,.int .i64 y.argk,.int .i64 y.argn,.slice e2 f2 g2,.int .i64 y.resk,.int .i64 y.resn,.slice e3' f3 g3,.slice e4 f4 g4,.slice (some ⟨b5,o5,none⟩) f5 g5] 49)∧u7.heap[p0]? = some (Obj.cells #[.slice a1 l1 c1,.slice (some ⟨b,ob,none⟩) l2 c2,.slice a3 j c3] 27)):=⟨gtr FZ.out.1 hgu,(hgu.block _ (lbk FZ.out.2.1) (by simp)).trans FZ.out.2.1,(hgu.block _ (lbk FZ.out.2.2.1) (by simp)).trans FZ.out.2.2.1⟩;clear CC hgu n0 n1 n2 n3 n4 k8;simp only[]
         cases hq:insV z with
         | false =>
          have E:Hid (standsV x=false):=by show _=_;rw[FZ.out.2.2.2.1,hq];rfl
          clear hq;go_wp2;go_ret;exact ⟨by rw[E.out];rfl,FW.out.1⟩
         | true =>
          have E:Hid (standsV x = !((R'.any fun x=>!insV x) || Q'.any fun b=>!blockV l1 b)):=by show _=_;rw[FZ.out.2.2.2.1,hq];rfl
          clear hq;go_wp2;go_roundw
          case rel=>exact ⟨k+1,R',by omega,by go_num,by omega,FW.out.1,FW.out.2.1,FW.out.2.2,E.out,FZ.out.2.2.2.2⟩
          case measure=>simp [intOf];omega
        ·
         obtain rfl:k=f5:=by omega
         obtain rfl:R=[]:=lz0 (by omega);have FW:Hid (w.grownBy wr none∧wr.heap[p0]? = some (Obj.cells #[.slice a1 l1 c1,.slice (some ⟨b,ob,none⟩) l2 c2,.slice a3 j c3] 27)∧(standsV x = !Q'.any fun b=>!blockV l1 b)):=⟨HR3.out.1,HR3.out.2.2.1,HR3.out.2.2.2.1⟩;clear HR3;go_wp2;go_roundw
         case rel=>exact ⟨m+1,Q',by omega,by go_num,by omega,FW.out.1,FW.out.2.1,FW.out.2.2,FX2.out⟩
         case measure=>simp [intOf];omega
     ·
      obtain rfl:m=l2:=by omega
      obtain rfl:Q=[]:=lz0 (by omega);have FW:Hid (w.grownBy wr none∧standsV x=true):=⟨HQ.out.1,HQ.out.2.2.1⟩;clear HQ;go_wp2;go_ret;exact ⟨by rw[FW.out.2];rfl,FW.out.1⟩
end Go.Proofs.YtnmlbeefjjohfaaGreatDoor.By
