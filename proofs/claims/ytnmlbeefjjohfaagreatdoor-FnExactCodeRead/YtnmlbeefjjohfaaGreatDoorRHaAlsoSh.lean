/-
  No statement is proved here.
-/
import Derived.Test.YtnmlbeefjjohfaaGreatDoorIEAlsoSh
namespace Go.Proofs.YtnmlbeefjjohfaaGreatDoor.By
set_option maxRecDepth 100000
set_option maxHeartbeats 16000000
open Go.RowKit
set_option linter.unusedVariables false
set_option linter.unusedSimpArgs false
theorem l6funT (k1 n1 k2 n2:Int) (a2:Option Addr) (l2 c2:Nat) (a3:Option Addr) (l3 c3:Nat) (w:World) :
  Calls Tryz.prog 56 #[.agg #[.int .i64 k1,.int .i64 n1,.slice a2 l2 c2],.agg #[.int .i64 k2,.int .i64 n2,.slice a3 l3 c3]] w fun e u=>∃ g,e = .returned (.agg #[.int .i64 4,.int .i64 0,.slice (some ⟨g,0,none⟩) 2 2])∧w.grownBy u none∧u.heap[g]? = some (Obj.cells #[.int .i64 k1,.int .i64 n1,.slice a2 l2 c2,.int .i64 k2,.int .i64 n2,.slice a3 l3 c3] 46):=by
 obtain ⟨b0,b1,b2,bsz⟩:=alloc3_blocks w (.cells #[.int .i64 k1,.int .i64 n1,.slice a2 l2 c2] 46) (.cells #[.int .i64 k2,.int .i64 n2,.slice a3 l3 c3] 46) (.cells #[.int .i64 0,.int .i64 0,.slice none 0 0] 46);have g0:=grown_alloc (grown_alloc (grown_alloc (grf w none) (.cells #[.int .i64 k1,.int .i64 n1,.slice a2 l2 c2] 46)) (.cells #[.int .i64 k2,.int .i64 n2,.slice a3 l3 c3] 46)) (.cells #[.int .i64 0,.int .i64 0,.slice none 0 0] 46);have hw:=Nat.le_of_eq bsz.symm;go_enter Tryz.func56,Tryz.ntmps56;go_upto_region 1 with fail;generalize ((w.alloc (.cells #[.int .i64 k1,.int .i64 n1,.slice a2 l2 c2] 46)).alloc (.cells #[.int .i64 k2,.int .i64 n2,.slice a3 l3 c3] 46)).alloc (.cells #[.int .i64 0,.int .i64 0,.slice none 0 0] 46)=w3 at *
 have hpe:w.heap.size+1+1≠w3.heap.size:=by omega
 have hpw:w.heap.size≤w.heap.size+1+1:=by omega
 generalize hp2:w.heap.size+1+1=p2 at *;generalize hp1:w.heap.size+1=p1 at *;generalize hp0:w.heap.size=p0 at *;obtain ⟨ws,hws⟩:∃ ws,ws=((w3.setCell ⟨p2,0,none⟩ (.int .i64 4)).setCell ⟨p2,1,none⟩ (.int .i64 0)).setCell ⟨p2,2,none⟩ (.slice (some ⟨w3.heap.size,0,none⟩) 2 2):=⟨_,rfl⟩
 have hsz:ws.heap.size=w3.heap.size:=by rw[hws];simp [World.setCell]
 have m2:ws.heap[p2]? = some (Obj.cells #[.int .i64 4,.int .i64 0,.slice (some ⟨w3.heap.size,0,none⟩) 2 2] 46):=by rw[hws];exact hsm _ _ 2 _ _ _ (hsm _ _ 1 _ _ (.int .i64 0) (hsm _ _ 0 _ _ (.int .i64 4) b2))
 have kk:w3.grownBy ws (some p2):=by rw[hws];exact gtr (gtr (gsc w3 p2 0 (.int .i64 4)) (gsc _ p2 1 (.int .i64 0))) (gsc _ p2 2 (.slice (some ⟨w3.heap.size,0,none⟩) 2 2))
 have ga:=gal ws (.cells #[.int .i64 k1,.int .i64 n1,.slice a2 l2 c2,.int .i64 k2,.int .i64 n2,.slice a3 l3 c3] 46) none;have ba:=hnw ws (.cells #[.int .i64 k1,.int .i64 n1,.slice a2 l2 c2,.int .i64 k2,.int .i64 n2,.slice a3 l3 c3] 46);rw[hsz] at ba;have FQ:Hid ((ws.alloc (.cells #[.int .i64 k1,.int .i64 n1,.slice a2 l2 c2,.int .i64 k2,.int .i64 n2,.slice a3 l3 c3] 46)).heap[p2]? = some (Obj.cells #[.int .i64 4,.int .i64 0,.slice (some ⟨w3.heap.size,0,none⟩) 2 2] 46)∧w.grownBy (ws.alloc (.cells #[.int .i64 k1,.int .i64 n1,.slice a2 l2 c2,.int .i64 k2,.int .i64 n2,.slice a3 l3 c3] 46)) none∧(ws.alloc (.cells #[.int .i64 k1,.int .i64 n1,.slice a2 l2 c2,.int .i64 k2,.int .i64 n2,.slice a3 l3 c3] 46)).heap[w3.heap.size]? = some (Obj.cells #[.int .i64 k1,.int .i64 n1,.slice a2 l2 c2,.int .i64 k2,.int .i64 n2,.slice a3 l3 c3] 46)):=⟨(ga.block _ (lbk m2) (by simp)).trans m2,gtr (grown_into g0 kk (by omega)) ga,ba⟩
 rw[hws] at FQ;obtain ⟨⟨x0,x1,x2⟩,-⟩:=three b0;obtain ⟨⟨y0,y1,y2⟩,-⟩:=three b1;obtain ⟨⟨z0,z1,z2⟩,f0,f1,f2⟩:=three b2;have hlt2:p2 < w3.heap.size:=lbk b2;clear b0 b1 b2 ga ba g0 m2 kk bsz hw hws hsz;go_wp2
 (try simp only[Exit.inBlock,Exit.then])
 refine bodyPost_ret (results_cell_row (P:=Tryz.prog) Tryz.results56 _ _ p2 _ _ _ _ rfl FQ.out.1 Tryz.underlying46 rfl (by kernel_rfl)) rfl ?_;exact ⟨_,rfl,FQ.out.2.1,FQ.out.2.2⟩
theorem okF_more (f:F):∀ p q:Nat,p≤q→okF f p=true→okF f q=true:=by
 induction f with
 | nil=>intro p q _ _;rfl
 | cons k n d r ihd ihr =>
  intro p q hpq h;simp only[okF,bA9,dE9] at h ⊢;exact ⟨⟨⟨by omega,h.1.1.2⟩,ihd _ _ (by omega) h.1.2⟩,ihr _ _ hpq h.2⟩
theorem capsR_len5:∀ (zs:List Int) (p:Int),capsR false p zs=true→0≤p→p≤4→(zs.length:Int)≤4 - p
 | [],p,_,hp,hq=>by simp;omega
 | z::r,p,h,hp,hq=>by
  simp only[capsR,bA9,Bool.or_eq_true,dE9,Bool.false_eq_true,false_or] at h;have:=capsR_len5 r z h.2 (by omega) (by omega);simp only[lB];omega
theorem capsV_len5 {zs:List Int} (h:capsV zs=true):zs.length≤5:=by
 cases zs with
 | nil=>simp
 | cons z r =>
  simp only[capsV,capsR,bA9,Bool.or_eq_true,dE9,true_or,and_true] at h;have:=capsR_len5 r z h.2 (by omega) (by omega);simp only[lB];omega
theorem fun_low {M:Nat} {k1 n1 k2 n2:Int} {d1 d2:F} (h:lwT M 4 0 (.cons k1 n1 d1 (.cons k2 n2 d2 .nil))=true):lwT M k1 n1 d1=true∧lwT M k2 n2 d2=true:=by
 simp only[lwT,bA9] at h;obtain ⟨h1,h2⟩:=h;have h2':lowF M (.cons k1 n1 d1 (.cons k2 n2 d2 .nil))=true:=h2;simp only[lowF_cons,bA9] at h2';simp only[okT,bA9,dE9] at h1;have hsz:1+(1+d1.size+(1+d2.size+0))≤60:=h1.2;simp only[okF,bA9,dE9] at h1;refine ⟨?_,?_⟩
 ·
  simp only[lwT,okT,bA9,dE9];exact ⟨⟨⟨h1.1.2.1.1.2,okF_more _ _ _ (by omega) h1.1.2.1.2⟩,by omega⟩,h2'.1⟩
 ·
  simp only[lwT,okT,bA9,dE9];exact ⟨⟨⟨h1.1.2.2.1.1.2,okF_more _ _ _ (by omega) h1.1.2.2.1.2⟩,by omega⟩,h2'.2.1⟩
def headK (M:Nat) (y:RBlock):Bool:=(decide (y.env.len≤60) && lwF M y.env) && ((decide (y.locs.len≤60) && lwF M y.locs) && ((decide (((.cons y.argk y.argn y.argf (.cons y.resk y.resn y.resf (.cons 4 0 (.cons y.argk y.argn y.argf (.cons y.resk y.resn y.resf .nil)) .nil))):F).len≤3) && lwF M (.cons y.argk y.argn y.argf (.cons y.resk y.resn y.resf (.cons 4 0 (.cons y.argk y.argn y.argf (.cons y.resk y.resn y.resf .nil)) .nil)))) && (decide (1≤y.code.length) && decide (y.code.length≤1000))))
theorem lwF_cons' (M:Nat) (k n:Int) (d r:F):lwF M (.cons k n d r)=(lwT M k n d && lwF M r):=rfl
theorem headK_eq (M:Nat) (y:RBlock):(headK M y && !y.code.any fun x=>!insV x)=blockV M y:=by
 unfold headK blockV;have e3:decide (((.cons y.argk y.argn y.argf (.cons y.resk y.resn y.resf (.cons 4 0 (.cons y.argk y.argn y.argf (.cons y.resk y.resn y.resf .nil)) .nil))):F).len≤3)=true:=rfl;rw[e3,lwF_cons',lwF_cons',lwF_cons'];have en:lwF M .nil=true:=rfl;rw[en]
 cases hf:lwT M 4 0 (.cons y.argk y.argn y.argf (.cons y.resk y.resn y.resf .nil)) with
 | false=>simp
 | true =>
  obtain ⟨h1,h2⟩:=fun_low hf;rw[h1,h2];generalize decide (y.env.len≤60)=a;generalize decide (y.locs.len≤60)=b;generalize decide (1≤y.code.length)=c;generalize decide (y.code.length≤1000)=d;generalize lwF M y.env=e;generalize lwF M y.locs=f;generalize (y.code.any fun x=>!insV x)=g
  revert a b c d e f g
  decide
def findReg (n:Nat):Code→Option Code
 | .region k ops d=>if k=n then some (.region k ops d) else none
 | .seq a b=>match findReg n a with
  | some c=>some c
  | none=>findReg n b
 | .cond _ a b=>match findReg n a with
  | some c=>some c
  | none=>findReg n b
 | .block _ c=>findReg n c
 | .loop c=>findReg n c
 | .scope c=>findReg n c
 | _=>none
noncomputable def reg13:Code:=((Tryz.f34.body.bind (findReg 13)).getD .skip)
theorem head_a (t0 t1 t2 t4 t5 t7 t8 t9 t10 t11 t12 t13 t14 t15 t16 t17 t18 t19 t20 t21 t22 t23 t24 t25 t26 t27 t28 t29 t30 t31 t32 t33 t34 t35 t36 t37 t38 t39 t40 t41 t42 t43 t44 t45 t46 t47 t48 t49 t50 t51 t52 t53 t54 t55 t56 t57 t58 t59 t60 t61 t62 t63 t64 t65 t66 t67 t68 t69 t70 t71 t72 t73 t74 t75 t76 t77 t78 t79 t80 t81 t82 t83 t84 t85 t86 t87 t88 t89 t90 t91 t92 t93 t94 t95 t96 t97 t98 t99 t100 t101 t102 t103 t104 t105 t106 t107 t108 t109 t110 t111 t112 t113 t114 t115 t116 t117 t118 t119 t120 t121 t122 t123 t124 t125 t126 t127 t128 t129 t130 t131 t132 t133 t134 t135 t136:Value) (l1 p6:Nat) (y:RBlock) (e1:Option Addr) (f1 g1:Nat) (e2:Option Addr) (f2 g2:Nat) (e3:Option Addr) (f3 g3:Nat) (e4:Option Addr) (f4 g4:Nat) (e5:Option Addr) (f5 g5:Nat) (v9:World) (hbx:v9.heap[p6]? = some (Obj.cells #[.slice e1 f1 g1,.int .i64 y.argk,.int .i64 y.argn,.slice e2 f2 g2,.int .i64 y.resk,.int .i64 y.resn,.slice e3 f3 g3,.slice e4 f4 g4,.slice e5 f5 g5] 49)) (hrd:RdBlock v9 y e1 f1 e2 f2 e3 f3 e4 f4 e5 f5) (KK:Act→World→Prop) (Q:Exit→Act→World→Prop) (hQp:∀ c (a:Act) d v w',Q (.panic c) (a.put d v) w'→Q (.panic c) a w') (hA:(decide (y.env.len≤60) && lwF l1 y.env)=false)
  (hK:∀ bb,bb=(!headK l1 y)→∀ (s84 s85 s86 s87 s88 s89 s90 s91 s92 s93 s94 s95 s96 s97 s98 s99 s100 s101 s102 s103 s104 s105 s106 s107 s108 s109 s110 s111 s112 s113 s114 s115 s116 s117 s118 s119 s120 s121:Value) ux,v9.grownBy ux none→KK ⟨#[t0,t1,t2,.int .i64 (l1:Int),t4,t5,.pointer (some ⟨p6,0,none⟩),t7,t8,t9,t10,t11,t12,t13,t14,t15,t16,t17,t18,t19,t20,t21,t22,t23,t24,t25,t26,t27,t28,t29,t30,t31,t32,t33,t34,t35,t36,t37,t38,t39,t40,t41,t42,t43,t44,t45,t46,t47,t48,t49,t50,t51,t52,t53,t54,t55,t56,t57,t58,t59,t60,t61,t62,t63,t64,t65,t66,t67,t68,t69,t70,t71,t72,t73,t74,t75,t76,t77,t78,t79,t80,t81,t82,t83,s84,s85,s86,s87,s88,s89,s90,s91,s92,s93,s94,s95,s96,s97,s98,s99,s100,s101,s102,s103,s104,s105,s106,s107,s108,s109,s110,s111,s112,s113,s114,s115,s116,s117,s118,s119,s120,s121,.bool bb,t123,t124,t125,t126,t127,t128,t129,t130,t131,t132,t133,t134,t135,t136],[]⟩ ux):Code.wp Tryz.prog reg13 (Exit.then KK Q) ⟨#[t0,t1,t2,.int .i64 (l1:Int),t4,t5,.pointer (some ⟨p6,0,none⟩),t7,t8,t9,t10,t11,t12,t13,t14,t15,t16,t17,t18,t19,t20,t21,t22,t23,t24,t25,t26,t27,t28,t29,t30,t31,t32,t33,t34,t35,t36,t37,t38,t39,t40,t41,t42,t43,t44,t45,t46,t47,t48,t49,t50,t51,t52,t53,t54,t55,t56,t57,t58,t59,t60,t61,t62,t63,t64,t65,t66,t67,t68,t69,t70,t71,t72,t73,t74,t75,t76,t77,t78,t79,t80,t81,t82,t83,t84,t85,t86,t87,t88,t89,t90,t91,t92,t93,t94,t95,t96,t97,t98,t99,t100,t101,t102,t103,t104,t105,t106,t107,t108,t109,t110,t111,t112,t113,t114,t115,t116,t117,t118,t119,t120,t121,t122,t123,t124,t125,t126,t127,t128,t129,t130,t131,t132,t133,t134,t135,t136],[]⟩ v9:=by
 have hcl:y.code.length=f5:=hrd.2.2.2.2.1;have hcm:f5≤9223372036854775807:=hrd.2.2.2.2.2.1;have gd:=grown_drew (grf v9 none);obtain ⟨v0,hv0⟩:∃ u,u=v9.drew:=⟨_,rfl⟩
 have GB:Hid (v9.grownBy v0 none):=by rw[hv0];exact gd
 have Gv0:Hid (v0.grownBy v0 none):=grf _ _
 have SK:Hid (∀ u,v0.grownBy u none→(fun u:World=>u.cell? ⟨p6,0,none⟩=some (.slice e1 f1 g1)∧u.cell? ⟨p6,1,none⟩=some (.int .i64 y.argk)∧u.cell? ⟨p6,2,none⟩=some (.int .i64 y.argn)∧u.cell? ⟨p6,3,none⟩=some (.slice e2 f2 g2)∧u.cell? ⟨p6,4,none⟩=some (.int .i64 y.resk)∧u.cell? ⟨p6,5,none⟩=some (.int .i64 y.resn)∧u.cell? ⟨p6,6,none⟩=some (.slice e3 f3 g3)∧u.cell? ⟨p6,7,none⟩=some (.slice e4 f4 g4)∧u.cell? ⟨p6,8,none⟩=some (.slice e5 f5 g5)) u):=fun u hu=>by
  have g:=gtr GB.out hu;exact (blkBlock ((g.block _ (lbk hbx) (by simp)).trans hbx)).1
 have RB:Hid (∀ u,v0.grownBy u none→RdBlock u y e1 f1 e2 f2 e3 f3 e4 f4 e5 f5):=fun u hu=>hrd.none (gtr GB.out hu)
 have HK:Hid (∀ bb,bb=(!headK l1 y)→∀ (s84 s85 s86 s87 s88 s89 s90 s91 s92 s93 s94 s95 s96 s97 s98 s99 s100 s101 s102 s103 s104 s105 s106 s107 s108 s109 s110 s111 s112 s113 s114 s115 s116 s117 s118 s119 s120 s121:Value) ux,v9.grownBy ux none→KK ⟨#[t0,t1,t2,.int .i64 (l1:Int),t4,t5,.pointer (some ⟨p6,0,none⟩),t7,t8,t9,t10,t11,t12,t13,t14,t15,t16,t17,t18,t19,t20,t21,t22,t23,t24,t25,t26,t27,t28,t29,t30,t31,t32,t33,t34,t35,t36,t37,t38,t39,t40,t41,t42,t43,t44,t45,t46,t47,t48,t49,t50,t51,t52,t53,t54,t55,t56,t57,t58,t59,t60,t61,t62,t63,t64,t65,t66,t67,t68,t69,t70,t71,t72,t73,t74,t75,t76,t77,t78,t79,t80,t81,t82,t83,s84,s85,s86,s87,s88,s89,s90,s91,s92,s93,s94,s95,s96,s97,s98,s99,s100,s101,s102,s103,s104,s105,s106,s107,s108,s109,s110,s111,s112,s113,s114,s115,s116,s117,s118,s119,s120,s121,.bool bb,t123,t124,t125,t126,t127,t128,t129,t130,t131,t132,t133,t134,t135,t136],[]⟩ ux):=hK;clear gd hbx hrd hK
 conv=>arg 2;whnf
 refine wp_region_held_drew (S:=(fun u:World=>u.cell? ⟨p6,0,none⟩=some (.slice e1 f1 g1)∧u.cell? ⟨p6,1,none⟩=some (.int .i64 y.argk)∧u.cell? ⟨p6,2,none⟩=some (.int .i64 y.argn)∧u.cell? ⟨p6,3,none⟩=some (.slice e2 f2 g2)∧u.cell? ⟨p6,4,none⟩=some (.int .i64 y.resk)∧u.cell? ⟨p6,5,none⟩=some (.int .i64 y.resn)∧u.cell? ⟨p6,6,none⟩=some (.slice e3 f3 g3)∧u.cell? ⟨p6,7,none⟩=some (.slice e4 f4 g4)∧u.cell? ⟨p6,8,none⟩=some (.slice e5 f5 g5))) (by kernel_rfl) (by rw[← hv0];exact SK.out _ Gv0.out) (fun hH=>?_);rw[← hv0] at hH ⊢;clear hv0;simp only[sA9,lB,lC,Nat.reduceAdd,Array.replicate,List.replicate];refine tq 0 hQp ?_;refine tq 1 hQp ?_;refine tq 2 hQp ?_;have CTu1:=l8tysOkT y.env e1 f1 g1 60 l1 v0 (RB.out _ Gv0.out).1;refine rd 3 rfl (fun K hK=>?_);go_simp;refine Calls.mono (show Calls Tryz.prog 55 #[.slice e1 f1 g1,.int .i64 60,.int .i64 (l1:Int)] v0 fun e u=>e = .returned (.bool (decide (y.env.len≤60) && lwF l1 y.env))∧v0.grownBy u none from CTu1) ?_
 rintro e u1 ⟨he,hg⟩;subst he;have Gu1:Hid (v0.grownBy u1 none):=gtr Gv0.out hg;clear hg CTu1;refine hK.out _ _ (SK.out _ Gu1.out) ?_;clear hK K hH;intro hH;simp only[Act.put,nA,nB,nC,nD,nE,nF];rw[hA];refine tq 4 hQp ?_;refine tq 5 hQp ?_;refine tqs 6 hQp ?_;refine tqs 7 hQp ?_;refine tqs 8 hQp ?_;refine tqs 9 hQp ?_;refine tqs 10 hQp ?_;refine tq 11 hQp ?_;refine tq 12 hQp ?_;refine tqs 13 hQp ?_;refine tqs 14 hQp ?_;refine tqs 15 hQp ?_;refine tqs 16 hQp ?_;refine tqs 17 hQp ?_;refine tqs 18 hQp ?_;refine tqs 19 hQp ?_;refine tqs 20 hQp ?_;refine tqs 21 hQp ?_;refine tqs 22 hQp ?_;refine tqs 23 hQp ?_;refine tqs 24 hQp ?_;refine tqs 25 hQp ?_;refine tq 26 hQp ?_;refine tq 27 hQp ?_;refine tqs 28 hQp ?_;refine tqs 29 hQp ?_;refine tqs 30 hQp ?_;refine tqs 31 hQp ?_;refine tq 32 hQp ?_;refine tq 33 hQp ?_;refine tqs 34 hQp ?_;refine tqs 35 hQp ?_;refine tqs 36 hQp ?_;refine tqs 37 hQp ?_
 refine tq 38 hQp ?_;refine wpAnyH_done (by kernel_rfl) ?_ _;clear hH
 have E:headK l1 y=false:=by unfold headK;simp [hA]
 refine show KK _ _ from ?_;refine HK.out _ ?_ _ _ _ _ _ _ _ _ _ _ _ _ _ _ _ _ _ _ _ _ _ _ _ _ _ _ _ _ _ _ _ _ _ _ _ _ _ _ u1 (gtr GB.out Gu1.out);rw[E];rfl
end Go.Proofs.YtnmlbeefjjohfaaGreatDoor.By
