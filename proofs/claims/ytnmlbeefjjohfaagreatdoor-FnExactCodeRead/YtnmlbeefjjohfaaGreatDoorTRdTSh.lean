/-
  No statement is proved here.
-/
import Derived.Test.YtnmlbeefjjohfaaGreatDoorTSizeSh
namespace Go.Proofs.YtnmlbeefjjohfaaGreatDoor.By
set_option maxRecDepth 100000
set_option maxHeartbeats 16000000
open Go.RowKit
set_option linter.unusedVariables false
set_option linter.unusedSimpArgs false
theorem results_cell3 {P:Program} {fn:Func} {p u v:Tmp} {ty:TypeId} (h:fn.results=#[.cell p ty,.tmp u,.tmp v]) (tmps:Array Value) (w:World) (g:Nat) (t:TypeId) (cs:Array Value) (fr:Nat × Nat) (d:TypeDesc)
  (hp:tmps.getD p undef = .pointer (some ⟨g,0,none⟩)) (hg:w.heap[g]? = some (.cells cs t fr))
  (hu:P.underlying ty=some d) (hd:(match d with | .struct _ | .array _ _=>true|_=>false)=true) (hi:(P.info? ty).map (·.size)=some cs.size) :
  (results fn tmps).run P w = .ok (.tuple #[.agg cs,tmps.getD u undef,tmps.getD v undef]) w:=by
 have hp':tmps[p]?.getD undef = .pointer (some ⟨g,0,none⟩):=by simpa using hp
 simp [results,h,hp',asAddr,run_loadVar_row w g t ty cs fr d hg hu hd hi]
theorem grown_intoR {a w w':World} {p:Nat} {row:Option Nat} (h:a.grownBy w row) (k:w.grownBy w' (some p)) (hp:a.heap.size≤p):a.grownBy w' row :=
 ⟨k.os.trans h.os,k.tape.trans h.tape,k.output.trans h.output,Nat.le_trans h.size k.size,fun i hi hr=>(k.block i (Nat.lt_of_lt_of_le hi h.size) (by simp;omega)).trans (h.block i hi hr)⟩
def Rdr (w:World) (q:Nat) (a:Option Addr) (N cap:Nat) (p rm:Int):Prop:=w.heap[q]? = some (.cells #[.slice a N cap,.int .i64 p,.int .i64 rm] 128)
def TopP (zs:List Int) (pn:Nat) (q b off N cap:Nat) (rm:Int) (w:World) (e:Ending) (u:World):Prop :=
 ∃ (k n:Int) (cc:Int) (x:Int) (ok:Bool),e = .returned (.tuple #[.agg #[.int .i64 k,.int .i64 n,.slice none 0 0],.int .i64 cc,.bool ok])∧w.grownBy u (some q)∧Rdr u q (some ⟨b,off,none⟩) N cap x rm ∧
  (ok=true→∃ c:Nat,cc=(c:Int)∧hd zs (pn:Int)=some (k,n,c,x)∧fitsB k n c=true) ∧
  (ok=false→∀ h,hd zs (pn:Int)=some h→fitsB h.1 h.2.1 h.2.2.1=false)
theorem readTopT (q b off N cap:Nat) (zs:List Int) (hz:Byt zs) (hN:N≤1048576) (pn:Nat) (hpn:pn < N) (rm:Int) (w:World) (hb:Rdr w q (some ⟨b,off,none⟩) N cap pn rm) (h:Reads w (some ⟨b,off,none⟩) N zs) (hbq:b≠q) :
  Calls Tryz.prog 106 #[.pointer (some ⟨q,0,none⟩)] w fun e u=>TopP zs pn q b off N cap rm w e u:=by
 have hl:=h.1;have hbk:=byt_get hz pn
 obtain ⟨b',off',hab,hc⟩:∃ b' off',(some (⟨b,off,none⟩:Addr))=some ⟨b',off',none⟩∧∀ i,i < N→w.cell? ⟨b',off' + i,none⟩=some (.int .u8 (zs.getD i 0)):=by
  rcases h.2 with h0|⟨b',off',hab,hc⟩
  ·
   omega
  ·
   exact ⟨b',off',hab,hc⟩
 injection hab with hab;injection hab with e1 e2 e3;subst e1 e2;have hck:=hc pn hpn;have hbl:=block_lt_of_cell hck
 have EH:Hid (hd zs (pn:Int)=hdN zs (zs.getD pn 0) ((pn:Int)+1)):=by show _=_;unfold hd;rw[if_neg (by omega)];simp
 rw[List.getD_eq_getElem?_getD] at EH hck;generalize hk:zs[pn]?.getD 0=k at *
 have hi1:(0:Int)≤pn:=by omega
 have hi2:(pn:Int) < N:=by omega
 have hqs:=lbk hb;have HB:Hid _:=hb;have HR:Hid _:=h;have g0:w.grownBy (w.alloc (.cells #[.int .i64 0,.int .i64 0,.slice none 0 0] 46)) none:=gal _ _ _;have g1:=grown_drew g0;have gd:(w.alloc (.cells #[.int .i64 0,.int .i64 0,.slice none 0 0] 46)).grownBy (w.alloc (.cells #[.int .i64 0,.int .i64 0,.slice none 0 0] 46)).drew none:=grown_drew (grf _ none);have L1:Hid (w.grownBy (w.alloc (.cells #[.int .i64 0,.int .i64 0,.slice none 0 0] 46)).drew none∧Rdr (w.alloc (.cells #[.int .i64 0,.int .i64 0,.slice none 0 0] 46)).drew q (some ⟨b,off,none⟩) N cap pn rm∧(w.alloc (.cells #[.int .i64 0,.int .i64 0,.slice none 0 0] 46)).drew.cell? ⟨b,off+pn,none⟩=some (.int .u8 k)∧(w.alloc (.cells #[.int .i64 0,.int .i64 0,.slice none 0 0] 46)).drew.heap[w.heap.size]? = some (.cells #[.int .i64 0,.int .i64 0,.slice none 0 0] 46)):=⟨g1,(g1.block _ hqs (by simp)).trans hb,(cell_of_heap (g1.block b hbl (by simp))).trans hck,(gd.block _ (by simp) (by simp)).trans (hnw w _)⟩
 clear gd;clear hb h hc hck hk g0 g1;go_enter Tryz.func106,Tryz.ntmps106;go_wp2_with fail;refine wp_region_held_drew (S:=(fun u0=>Tri q 0 (.slice (some ⟨b,off,none⟩) N cap) (.int .i64 pn) (.int .i64 rm) u0∧u0.cell? ⟨b,off+pn,none⟩=some (.int .u8 k))) (by kernel_rfl) ⟨(three L1.out.2.1).1,L1.out.2.2.1⟩ (fun hH=>?_);generalize (World.drew _)=u0 at *;simp only[sA9,lB,lC,Nat.reduceAdd,Array.replicate,List.replicate];refine tk 0 ?_;refine tk 1 ?_;refine tk 2 ?_;refine tk 3 ?_;refine tk 4 ?_;refine tk 5 ?_;refine tk 6 ?_;refine tk 7 ?_;refine tk 8 ?_;refine tk 9 ?_;refine tk 10 ?_;refine tk 11 ?_;refine rd 12 rfl (fun K hK=>?_);go_simp;have hwk:IntKind.i64.wrap k=k:=IntWalk.i64_in _ (by omega);rw[hwk];generalize e2:w.heap.size=q2 at *;obtain ⟨g1,b1,c1,z1⟩:=L1.out;have hu0:=lbk z1;have lq0:=lbk b1;have ga:=gal u0 (.cells #[.int .i64 0,.int .i64 0,.slice none 0 0] 46) none;have L2:Hid (w.grownBy (u0.alloc (.cells #[.int .i64 0,.int .i64 0,.slice none 0 0] 46)) none∧Rdr (u0.alloc (.cells #[.int .i64 0,.int .i64 0,.slice none 0 0] 46)) q (some ⟨b,off,none⟩) N cap pn rm∧(u0.alloc (.cells #[.int .i64 0,.int .i64 0,.slice none 0 0] 46)).cell? ⟨b,off+pn,none⟩=some (.int .u8 k)∧(u0.alloc (.cells #[.int .i64 0,.int .i64 0,.slice none 0 0] 46)).heap[q2]? = some (.cells #[.int .i64 0,.int .i64 0,.slice none 0 0] 46)∧(u0.alloc (.cells #[.int .i64 0,.int .i64 0,.slice none 0 0] 46)).heap[u0.heap.size]? = some (.cells #[.int .i64 0,.int .i64 0,.slice none 0 0] 46)):=⟨gtr g1 ga,(ga.block _ lq0 (by simp)).trans b1,(cell_of_heap (ga.block b (block_lt_of_cell c1) (by simp))).trans c1,(ga.block _ hu0 (by simp)).trans z1,hnw u0 _⟩
 have hb0:=block_lt_of_cell c1;refine hK.out _ _ ⟨(three L2.out.2.1).1,L2.out.2.2.1⟩ (fun hH2=>?_);clear hK K hH;have hH:=hH2;clear hH2 ga g1 b1 c1 z1 L1;simp only[Act.put,nA,nB,nC,nD,nE,nF];generalize e1:u0.alloc (.cells #[.int .i64 0,.int .i64 0,.slice none 0 0] 46)=u1 at *;generalize e5:u0.heap.size=q5 at *
 have n25:q2≠q5:=by omega
 have nq5:q≠q5:=by omega
 have nb5:b≠q5:=by omega
 have PQ:Hid (w.heap.size=q2∧q2 < q5∧q < q2∧b < q2):=⟨e2,hu0,hqs,hbl⟩;clear e1 e5 e2 lq0 hb0 hu0 hqs hbl;obtain ⟨d5,k5⟩:=fill3 (.int .i64 k) (.int .i64 0) (.slice none 0 0) L2.out.2.2.2.2;obtain ⟨⟨y0,y1,y2⟩,f0,f1,f2⟩:=three L2.out.2.2.2.2;have L3:Hid (w.grownBy _ none∧Rdr _ q (some ⟨b,off,none⟩) N cap pn rm∧_∧_∧_):=⟨grown_into L2.out.1 k5 (by have:=PQ.out;omega),(k5.block _ (lbk L2.out.2.1) (by simp;omega)).trans L2.out.2.1,(cell_of_heap (k5.block b (block_lt_of_cell L2.out.2.2.1) (by simp;omega))).trans L2.out.2.2.1,(k5.block _ (lbk L2.out.2.2.2.1) (by simp;omega)).trans L2.out.2.2.2.1,d5⟩;clear d5 k5;refine rd 13 rfl (fun K hK=>?_);go_simp;refine hK.out _ _ ⟨(three L3.out.2.1).1,L3.out.2.2.1⟩ (fun hH2=>?_);clear hK K hH hH2 y0 y1 y2 f0 f1 f2;simp only[Act.put,nA,nB,nC,nD,nE,nF];refine wpAnyH_done (by kernel_rfl) ?_ _;generalize (((u1.setCell ⟨q5,0,none⟩ (.int .i64 k)).setCell ⟨q5,1,none⟩ (.int .i64 0)).setCell ⟨q5,2,none⟩ (.slice none 0 0))=u2 at *
 have ks:=gsc u2 q 1 (.int .i64 ((pn:Int)+1));obtain ⟨g1,b1,c1,z1,t1⟩:=L3.out;have L4:Hid (w.grownBy (u2.setCell ⟨q,1,none⟩ (.int .i64 ((pn:Int)+1))) (some q)∧Rdr (u2.setCell ⟨q,1,none⟩ (.int .i64 ((pn:Int)+1))) q (some ⟨b,off,none⟩) N cap ((pn:Int)+1) rm∧(u2.setCell ⟨q,1,none⟩ (.int .i64 ((pn:Int)+1))).heap[q2]? = some (.cells #[.int .i64 0,.int .i64 0,.slice none 0 0] 46)∧(u2.setCell ⟨q,1,none⟩ (.int .i64 ((pn:Int)+1))).heap[q5]? = some (.cells #[.int .i64 k,.int .i64 0,.slice none 0 0] 46)):=⟨gtr (wide_none g1 _) ks,hsm u2 q 1 _ _ _ b1,(ks.block _ (lbk z1) (by have:=PQ.out;simp;omega)).trans z1,(ks.block _ (lbk t1) (by simp;omega)).trans t1⟩;obtain ⟨⟨y0,y1,y2⟩,f0,f1,f2⟩:=three b1;obtain ⟨⟨v0,v1,v2⟩,-⟩:=three L4.out.2.2.2;clear ks g1 b1 c1 z1 t1 L2 L3;go_wp2_with fail;refine Calls.mono (shpT k _) ?_;rintro e u3 ⟨rfl,hg⟩;obtain ⟨g1,b1,z1,t1⟩:=L4.out;have L5:Hid (w.grownBy u3 (some q)∧Rdr u3 q (some ⟨b,off,none⟩) N cap ((pn:Int)+1) rm∧u3.heap[q2]? = some (Obj.cells #[.int .i64 0,.int .i64 0,.slice none 0 0] 46)∧u3.heap[q5]? = some (Obj.cells #[.int .i64 k,.int .i64 0,.slice none 0 0] 46)):=⟨gtr g1 (wide_none hg _),(hg.block _ (lbk b1) (by simp)).trans b1,(hg.block _ (lbk z1) (by simp)).trans z1,(hg.block _ (lbk t1) (by simp)).trans t1⟩
 have RU:Hid (∀ u,w.grownBy u (some q)→Reads u (some ⟨b,off,none⟩) N zs):=fun u hu=>⟨HR.out.1,by
  rcases HR.out.2 with h0|⟨b',off',hab,hc⟩
  ·
   exact .inl h0
  ·
   refine .inr ⟨b',off',hab,fun i hi=>?_⟩;injection hab with hab;injection hab with e1 e2 e3;subst e1 e2
   exact (cell_of_heap (hu.block b (block_lt_of_cell (hc i hi)) (by simp;exact hbq))).trans (hc i hi)⟩
 clear hg g1 b1 z1 t1 L4 y0 y1 y2 f0 f1 f2 v0 v1 v2 HB HR
 have LX:Hid (∀ o,w.grownBy (u3.alloc o) (some q)∧Rdr (u3.alloc o) q (some ⟨b,off,none⟩) N cap ((pn:Int)+1) rm∧(u3.alloc o).heap[q2]? = some (Obj.cells #[.int .i64 0,.int .i64 0,.slice none 0 0] 46)∧(u3.alloc o).heap[q5]? = some (Obj.cells #[.int .i64 k,.int .i64 0,.slice none 0 0] 46)):=fun o=>by
  obtain ⟨g1,b1,z1,t1⟩:=L5.out;have hg:=gal u3 o none;exact ⟨gtr g1 (wide_none hg _),(hg.block _ (lbk b1) (by simp)).trans b1,(hg.block _ (lbk z1) (by simp)).trans z1,(hg.block _ (lbk t1) (by simp)).trans t1⟩
 have CN:Hid (∀ (u:World) (p:Int),w.grownBy u (some q)→Rdr u q (some ⟨b,off,none⟩) N cap p rm→p≤9223372036854775807→Calls Tryz.prog 117 #[.pointer (some ⟨q,0,none⟩)] u fun e v=>e = .returned (.int .i64 (getNum zs p).1)∧u.grownBy v (some q)∧Rdr v q (some ⟨b,off,none⟩) N cap (getNum zs p).2 rm):=fun u p hu hr hp=>numberT q _ N cap zs hz hN p rm u hr (RU.out u hu) hp
 clear RU;simp only[];go_upto_block 0 with fail
 go_cut [6] (fun s6 wx=>∃ (n x:Int) (cc:Nat),s6 = .int .i64 cc∧Hid (w.grownBy wx (some q)∧Rdr wx q (some ⟨b,off,none⟩) N cap x rm∧wx.heap[q2]? = some (Obj.cells #[.int .i64 0,.int .i64 0,.slice none 0 0] 46)∧wx.heap[q5]? = some (Obj.cells #[.int .i64 k,.int .i64 n,.slice none 0 0] 46))∧Hid ((0≤x→fitsB k n cc=true→hdN zs k ((pn:Int)+1)=some (k,n,cc,x))∧(∀ h,hdN zs k ((pn:Int)+1)=some h→h=(k,n,cc,x)∧0≤x)))
 case first =>
  by_cases k0:k=0
  ·
   subst k0;rw[show shpV 0 = .iface 153 (.agg #[.string ⟨#[117,110,105,116]⟩,.int .i64 0,.bool false]) from rfl];have t1:=asFixFix (.agg #[.string ⟨#[117,110,105,116]⟩,.int .i64 0,.bool false]);have HH:Hid (hdN zs 0 ((pn:Int)+1)=some (0,0,0,(pn:Int)+1)):=rfl;clear EH CN;go_wp2;go_meet
   case rel=>exact ⟨0,(pn:Int)+1,0,rfl,LX.out _,fun _ _=>HH.out,fun h hh=>⟨by rw[HH.out] at hh;injection hh with hh;exact hh.symm,by omega⟩⟩
  by_cases k1:k=1
  ·
   subst k1;rw[show shpV 1 = .iface 153 (.agg #[.string ⟨#[105,110,116]⟩,.int .i64 0,.bool false]) from rfl];have t1:=asFixFix (.agg #[.string ⟨#[105,110,116]⟩,.int .i64 0,.bool false]);have HH:Hid (hdN zs 1 ((pn:Int)+1)=some (1,0,0,(pn:Int)+1)):=rfl;clear EH CN;go_wp2;go_meet
   case rel=>exact ⟨0,(pn:Int)+1,0,rfl,LX.out _,fun _ _=>HH.out,fun h hh=>⟨by rw[HH.out] at hh;injection hh with hh;exact hh.symm,by omega⟩⟩
  by_cases k2:k=2
  ·
   subst k2;rw[show shpV 2 = .iface 153 (.agg #[.string ⟨#[116,101,120,116]⟩,.int .i64 0,.bool true]) from rfl];have t1:=asFixFix (.agg #[.string ⟨#[116,101,120,116]⟩,.int .i64 0,.bool true]);have HH:Hid (hdN zs 2 ((pn:Int)+1)=some (2,0,0,(pn:Int)+1)):=rfl;clear EH CN;go_wp2;go_meet
   case rel=>exact ⟨0,(pn:Int)+1,0,rfl,LX.out _,fun _ _=>HH.out,fun h hh=>⟨by rw[HH.out] at hh;injection hh with hh;exact hh.symm,by omega⟩⟩
  by_cases k3:k=3
  ·
   subst k3;rw[show shpV 3 = .iface 153 (.agg #[.string ⟨#[112,97,105,114]⟩,.int .i64 2,.bool true]) from rfl];have t1:=asFixFix (.agg #[.string ⟨#[112,97,105,114]⟩,.int .i64 2,.bool true]);have HH:Hid (hdN zs 3 ((pn:Int)+1)=some (3,0,2,(pn:Int)+1)):=rfl;clear EH CN;go_wp2;go_meet
   case rel=>exact ⟨0,(pn:Int)+1,2,rfl,LX.out _,fun _ _=>HH.out,fun h hh=>⟨by rw[HH.out] at hh;injection hh with hh;exact hh.symm,by omega⟩⟩
  by_cases k4:k=4
  ·
   subst k4;rw[show shpV 4 = .iface 153 (.agg #[.string ⟨#[102,117,110]⟩,.int .i64 2,.bool true]) from rfl];have t1:=asFixFix (.agg #[.string ⟨#[102,117,110]⟩,.int .i64 2,.bool true]);have HH:Hid (hdN zs 4 ((pn:Int)+1)=some (4,0,2,(pn:Int)+1)):=rfl;clear EH CN;go_wp2;go_meet
   case rel=>exact ⟨0,(pn:Int)+1,2,rfl,LX.out _,fun _ _=>HH.out,fun h hh=>⟨by rw[HH.out] at hh;injection hh with hh;exact hh.symm,by omega⟩⟩
  by_cases k5:k=5
  ·
   subst k5;rw[show shpV 5 = .iface 153 (.agg #[.string ⟨#[114,101,102]⟩,.int .i64 1,.bool true]) from rfl];have t1:=asFixFix (.agg #[.string ⟨#[114,101,102]⟩,.int .i64 1,.bool true]);have HH:Hid (hdN zs 5 ((pn:Int)+1)=some (5,0,1,(pn:Int)+1)):=rfl;clear EH CN;go_wp2;go_meet
   case rel=>exact ⟨0,(pn:Int)+1,1,rfl,LX.out _,fun _ _=>HH.out,fun h hh=>⟨by rw[HH.out] at hh;injection hh with hh;exact hh.symm,by omega⟩⟩
  by_cases k7:k=7
  ·
   subst k7;rw[show shpV 7 = .iface 155 (.agg #[]) from rfl];have t1:=asFixVar;have t2:=asVarVar;have bd:=getNum_bounds zs hz ((pn:Int)+1);have EX:Hid (∃ n1 x1,getNum zs ((pn:Int)+1)=(n1,x1)):=⟨_,_,rfl⟩;obtain ⟨n1,x1,hG⟩:=EX.out;clear EX;rw[hG] at bd;have HG:Hid (getNum zs ((pn:Int)+1)=(n1,x1)):=hG
   have BD:Hid (x1≤N∧-1≤x1):=by simp only[] at bd;rcases bd with bd|bd <;> (try (injection bd with b1 b2)) <;> (show _∧_;omega)
   clear bd EH;go_wp2_with fail;refine Calls.mono (CN.out _ ((pn:Int)+1) (LX.out _).1 (LX.out _).2.1 (by omega)) ?_;rintro e u4 ⟨rfl,hg,hr⟩;rw[hG] at hr ⊢;simp only[] at hr ⊢;clear hG;have L6:Hid (w.grownBy u4 (some q)∧Rdr u4 q (some ⟨b,off,none⟩) N cap x1 rm∧u4.heap[q2]? = some (Obj.cells #[.int .i64 0,.int .i64 0,.slice none 0 0] 46)∧u4.heap[q5]? = some (Obj.cells #[.int .i64 7,.int .i64 0,.slice none 0 0] 46)):=⟨gtr (LX.out _).1 hg,hr,(hg.block _ (lbk (LX.out _).2.2.1) (by have:=PQ.out;simp;omega)).trans (LX.out _).2.2.1,(hg.block _ (lbk (LX.out _).2.2.2) (by simp;omega)).trans (LX.out _).2.2.2⟩;clear hg hr LX L5;obtain ⟨⟨y0,y1,y2⟩,f0,f1,f2⟩:=three L6.out.2.2.2;have ks:=gsc u4 q5 1 (.int .i64 n1);have L7:Hid (w.grownBy (u4.setCell ⟨q5,1,none⟩ (.int .i64 n1)) (some q)∧Rdr (u4.setCell ⟨q5,1,none⟩ (.int .i64 n1)) q (some ⟨b,off,none⟩) N cap x1 rm∧(u4.setCell ⟨q5,1,none⟩ (.int .i64 n1)).heap[q2]? = some (Obj.cells #[.int .i64 0,.int .i64 0,.slice none 0 0] 46)∧(u4.setCell ⟨q5,1,none⟩ (.int .i64 n1)).heap[q5]? = some (Obj.cells #[.int .i64 7,.int .i64 n1,.slice none 0 0] 46)):=⟨grown_intoR L6.out.1 ks (by have:=PQ.out;omega),(ks.block _ (lbk L6.out.2.1) (by simp;omega)).trans L6.out.2.1,(ks.block _ (lbk L6.out.2.2.1) (by simp;omega)).trans L6.out.2.2.1,hsm u4 q5 1 _ _ _ L6.out.2.2.2⟩
   clear ks L6
   have E7:hdN zs 7 ((pn:Int)+1)=if x1 < 0 then none else some (7,n1,0,x1):=by unfold hdN;rw[HG.out];simp
   have HH:Hid ((0≤x1→fitsB 7 n1 0=true→hdN zs 7 ((pn:Int)+1)=some (7,n1,0,x1))∧(∀ h,hdN zs 7 ((pn:Int)+1)=some h→h=(7,n1,0,x1)∧0≤x1)):=by
    rw[E7];by_cases hx:x1 < 0
    ·
     rw[if_pos hx];exact ⟨fun h=>by omega,fun h hh=>by cases hh⟩
    ·
     rw[if_neg hx];exact ⟨fun _ _=>rfl,fun h hh=>by injection hh with hh;exact ⟨hh.symm,by omega⟩⟩
   clear E7 CN;go_wp2;go_meet
   case rel=>exact ⟨n1,x1,0,rfl,L7,HH⟩
  by_cases k6:k=6
  ·
   subst k6;rw[show shpV 6 = .iface 156 (.agg #[]) from rfl];have t1:=asFixData;have t2:=asVarData;have t3:=asDataData;have bd:=getNum_bounds zs hz ((pn:Int)+1);have EX:Hid (∃ n1 x1,getNum zs ((pn:Int)+1)=(n1,x1)):=⟨_,_,rfl⟩;obtain ⟨n1,x1,hG⟩:=EX.out;clear EX;rw[hG] at bd;have HG:Hid (getNum zs ((pn:Int)+1)=(n1,x1)):=hG
   have BD:Hid (x1≤N∧-1≤x1):=by simp only[] at bd;rcases bd with bd|bd <;> (try (injection bd with b1 b2)) <;> (show _∧_;omega)
   clear bd EH;go_wp2_with fail;refine Calls.mono (CN.out _ ((pn:Int)+1) (LX.out _).1 (LX.out _).2.1 (by omega)) ?_;rintro e u4 ⟨rfl,hg,hr⟩;rw[hG] at hr ⊢;simp only[] at hr ⊢;clear hG;have L6:Hid (w.grownBy u4 (some q)∧Rdr u4 q (some ⟨b,off,none⟩) N cap x1 rm∧u4.heap[q2]? = some (Obj.cells #[.int .i64 0,.int .i64 0,.slice none 0 0] 46)∧u4.heap[q5]? = some (Obj.cells #[.int .i64 6,.int .i64 0,.slice none 0 0] 46)):=⟨gtr (LX.out _).1 hg,hr,(hg.block _ (lbk (LX.out _).2.2.1) (by have:=PQ.out;simp;omega)).trans (LX.out _).2.2.1,(hg.block _ (lbk (LX.out _).2.2.2) (by simp;omega)).trans (LX.out _).2.2.2⟩;clear hg hr LX L5;obtain ⟨⟨y0,y1,y2⟩,f0,f1,f2⟩:=three L6.out.2.2.2;have ks:=gsc u4 q5 1 (.int .i64 n1);have L7:Hid (w.grownBy (u4.setCell ⟨q5,1,none⟩ (.int .i64 n1)) (some q)∧Rdr (u4.setCell ⟨q5,1,none⟩ (.int .i64 n1)) q (some ⟨b,off,none⟩) N cap x1 rm∧(u4.setCell ⟨q5,1,none⟩ (.int .i64 n1)).heap[q2]? = some (Obj.cells #[.int .i64 0,.int .i64 0,.slice none 0 0] 46)∧(u4.setCell ⟨q5,1,none⟩ (.int .i64 n1)).heap[q5]? = some (Obj.cells #[.int .i64 6,.int .i64 n1,.slice none 0 0] 46)):=⟨grown_intoR L6.out.1 ks (by have:=PQ.out;omega),(ks.block _ (lbk L6.out.2.1) (by simp;omega)).trans L6.out.2.1,(ks.block _ (lbk L6.out.2.2.1) (by simp;omega)).trans L6.out.2.2.1,hsm u4 q5 1 _ _ _ L6.out.2.2.2⟩
   clear ks L6;have bd:=getNum_bounds zs hz x1;have EX:Hid (∃ n2 x2,getNum zs x1=(n2,x2)):=⟨_,_,rfl⟩;obtain ⟨n2,x2,hG⟩:=EX.out;clear EX;rw[hG] at bd;have HG2:Hid (getNum zs x1=(n2,x2)):=hG
   have BD2:Hid (0≤n2):=by simp only[] at bd;rcases bd with bd|bd <;> (try (injection bd with b1 b2)) <;> (show _≤_;omega)
   have HN:Hid (x1 < 0→x2 < 0):=fun hx=>by
    have e:=HG2.out;unfold getNum at e;rw[if_pos hx] at e;injection e with e1 e2;omega
   clear bd;obtain ⟨nn2,rfl⟩:∃ nn2:Nat,n2=(nn2:Int):=⟨n2.toNat,by have:=BD2.out;omega⟩;go_wp2_with fail;refine Calls.mono (CN.out _ x1 L7.out.1 L7.out.2.1 (by have:=BD.out;omega)) ?_;rintro e u5 ⟨rfl,hg,hr⟩;rw[hG] at hr ⊢;simp only[] at hr ⊢;clear hG;have L8:Hid (w.grownBy u5 (some q)∧Rdr u5 q (some ⟨b,off,none⟩) N cap x2 rm∧u5.heap[q2]? = some (Obj.cells #[.int .i64 0,.int .i64 0,.slice none 0 0] 46)∧u5.heap[q5]? = some (Obj.cells #[.int .i64 6,.int .i64 n1,.slice none 0 0] 46)):=⟨gtr L7.out.1 hg,hr,(hg.block _ (lbk L7.out.2.2.1) (by have:=PQ.out;simp;omega)).trans L7.out.2.2.1,(hg.block _ (lbk L7.out.2.2.2) (by simp;omega)).trans L7.out.2.2.2⟩;clear hg hr L7 y0 y1 y2 f0 f1 f2
   have HH:Hid ((0≤x2→fitsB 6 n1 nn2=true→hdN zs 6 ((pn:Int)+1)=some (6,n1,nn2,x2))∧(∀ h,hdN zs 6 ((pn:Int)+1)=some h→h=(6,n1,nn2,x2)∧0≤x2)):=by
    refine ⟨fun h0 hf=>?_,fun h hh=>?_⟩
    ·
     have h3:nn2≤3:=Classical.byContradiction fun hc=>by rw[fits6x hc] at hf;cases hf
     unfold hdN;rw[HG.out];simp only[];rw[HG2.out];have:=HN.out;simp;omega
    ·
     unfold hdN at hh;rw[HG.out] at hh;simp only[] at hh;rw[HG2.out] at hh;simp at hh;obtain ⟨h1,h2,rfl⟩:=hh;exact ⟨rfl,by omega⟩
   clear CN HG HG2 BD BD2 HN;go_wp2;go_meet
   case rel=>exact ⟨n1,x2,nn2,rfl,L8,HH⟩
  have ES:shpV k = .iface 163 (.agg #[]):=by unfold shpV;rw[if_neg k6,if_neg k7,if_pos (by omega)]
  have t1:∀ w,Sem.run Tryz.prog (Instr.typeAssert (shpV k) 150 153 true) w = .ok (.tuple #[.agg #[.string ⟨#[]⟩,.int .i64 0,.bool false],.bool false]) w:=fun w=>by rw[ES];exact asFixNo w
  have t2:∀ w,Sem.run Tryz.prog (Instr.typeAssert (shpV k) 150 155 true) w = .ok (.tuple #[.agg #[],.bool false]) w:=fun w=>by rw[ES];exact asVarNo w
  have t3:∀ w,Sem.run Tryz.prog (Instr.typeAssert (shpV k) 150 156 true) w = .ok (.tuple #[.agg #[],.bool false]) w:=fun w=>by rw[ES];exact asDataNo w
  have HH:Hid ((0≤(pn:Int)+1→fitsB k 0 0=true→hdN zs k ((pn:Int)+1)=some (k,0,0,(pn:Int)+1))∧(∀ h,hdN zs k ((pn:Int)+1)=some h→h=(k,0,0,(pn:Int)+1)∧0≤(pn:Int)+1)):=by
   have e:hdN zs k ((pn:Int)+1)=none:=by unfold hdN;rw[if_neg (by omega),if_neg (by omega),if_neg k5,if_neg k7,if_neg k6]
   rw[e];exact ⟨fun _ hf=>(by rw[fitsx k0 k1 k2 k3 k4 k5 k6 k7] at hf;cases hf),fun h hh=>(by cases hh)⟩
  clear k0 k1 k2 k3 k4 k5 k6 k7 EH CN ES LX;go_wp2;go_meet
  case rel=>exact ⟨0,(pn:Int)+1,0,rfl,L5,HH⟩
 case rest =>
  clear LX CN L5;obtain ⟨n,x,cc,rfl,LC,HC⟩:=hcut;go_wp2_with fail
  have LD:Hid (w.grownBy wc.drew (some q)∧Rdr wc.drew q (some ⟨b,off,none⟩) N cap x rm∧wc.drew.heap[q2]? = some (Obj.cells #[.int .i64 0,.int .i64 0,.slice none 0 0] 46)∧wc.drew.heap[q5]? = some (Obj.cells #[.int .i64 k,.int .i64 n,.slice none 0 0] 46)):=by
   obtain ⟨g1,b1,z1,t1⟩:=LC.out;have hg:=grown_drew (grf wc none);exact ⟨gtr g1 (wide_none hg _),(hg.block _ (lbk b1) (by simp)).trans b1,(hg.block _ (lbk z1) (by simp)).trans z1,(hg.block _ (lbk t1) (by simp)).trans t1⟩
  clear LC;by_cases hx:x < 0
  ·
   have EN:Hid (∀ h,hd zs (pn:Int)=some h→fitsB h.1 h.2.1 h.2.2.1=false):=fun h hh=>by
    rw[EH.out] at hh;have:=(HC.out.2 h hh).2;omega
   clear HC EH
   have hx':¬ (0≤x):=by omega
   refine wp_region_held_drew (S:=(fun u=>Tri q5 0 (.int .i64 k) (.int .i64 n) (.slice none 0 0) u∧Tri q 0 (.slice (some ⟨b,off,none⟩) N cap) (.int .i64 x) (.int .i64 rm) u)) (by kernel_rfl) ⟨(three LD.out.2.2.2).1,(three LD.out.2.1).1⟩ (fun hH=>?_);generalize (World.drew _)=u0 at *;simp only[sA9,lB,lC,Nat.reduceAdd,Array.replicate,List.replicate];refine tk 0 ?_;refine tk 1 ?_;refine tk 2 ?_;refine tk 3 ?_;refine tk 4 ?_;refine tk 5 ?_;refine tk 6 ?_;refine tk 7 ?_;refine tks 8 ?_;refine tks 9 ?_;refine tks 10 ?_;refine tks 11 ?_;refine tks 12 ?_;refine tk 13 ?_;obtain ⟨d2,k2⟩:=fill3 (.int .i64 k) (.int .i64 n) (.slice none 0 0) LD.out.2.2.1;obtain ⟨⟨y0,y1,y2⟩,f0,f1,f2⟩:=three LD.out.2.2.1;have FQ:Hid (_∧w.grownBy _ (some q)∧Rdr _ q (some ⟨b,off,none⟩) N cap x rm∧_):=⟨d2,grown_intoR LD.out.1 k2 (by have:=PQ.out;omega),(k2.block _ (lbk LD.out.2.1) (by have:=PQ.out;simp;omega)).trans LD.out.2.1,(k2.block _ (lbk LD.out.2.2.2) (by simp;omega)).trans LD.out.2.2.2⟩
   clear d2 k2;refine rd 14 rfl (fun K hK=>?_);go_simp;refine hK.out _ _ ⟨(three FQ.out.2.2.2).1,(three FQ.out.2.2.1).1⟩ (fun hH2=>?_);clear hK K hH;have hH:=hH2;clear hH2 y0 y1 y2 f0 f1 f2;simp only[Act.put,nA,nB,nC,nD,nE,nF];refine tk 15 ?_;refine tk 16 ?_;refine wpAnyH_done (by kernel_rfl) ?_ _;clear hH;go_wp2
   (try simp only[Exit.inBlock,Exit.then])
   refine bodyPost_ret (results_cell3 (P:=Tryz.prog) Tryz.results106 _ _ q2 _ _ _ _ rfl FQ.out.1 Tryz.underlying46 rfl (by kernel_rfl)) rfl ?_;exact ⟨k,n,cc,x,false,rfl,FQ.out.2.1,FQ.out.2.2.1,fun h=>(by cases h),fun _=>EN.out⟩
  have hx0:0≤x:=by omega
  have HT:Hid ((fitsB k n cc=true→∃ c:Nat,(cc:Int)=(c:Int)∧hd zs (pn:Int)=some (k,n,c,x)∧fitsB k n c=true)∧(fitsB k n cc=false→∀ h,hd zs (pn:Int)=some h→fitsB h.1 h.2.1 h.2.2.1=false)):=⟨fun hf=>⟨cc,rfl,EH.out.trans (HC.out.1 hx0 hf),hf⟩,fun hf h hh=>by
   rw[EH.out] at hh
   rw[(HC.out.2 h hh).1];exact hf⟩
  clear HC EH;by_cases h6:k=6
  ·
   have ES:shpV k = .iface 156 (.agg #[]):=by rw[h6];rfl
   have EF:Hid (fitsB 6 n cc=fitsB k n cc):=by show _=_;rw[h6]
   rw[ES];clear h6 ES;have hmeth:=methData;refine wp_region_held_drew (S:=(fun u=>Tri q5 0 (.int .i64 k) (.int .i64 n) (.slice none 0 0) u∧Tri q 0 (.slice (some ⟨b,off,none⟩) N cap) (.int .i64 x) (.int .i64 rm) u)) (by kernel_rfl) ⟨(three LD.out.2.2.2).1,(three LD.out.2.1).1⟩ (fun hH=>?_);generalize (World.drew _)=u0 at *;simp only[sA9,lB,lC,Nat.reduceAdd,Array.replicate,List.replicate];refine tk 0 ?_;refine tk 1 ?_;refine tk 2 ?_;refine tk 3 ?_;refine tk 4 ?_;refine tk 5 ?_;refine tk 6 ?_;refine tk 7 ?_;refine tk 8 ?_;refine tk 9 ?_;refine tk 10 ?_;refine tk 11 ?_;refine rd 12 rfl (fun K hK=>?_);go_simp;refine Calls.mono (dataFits n cc u0) ?_;rintro e u1 ⟨he,hg⟩;subst he
   have LE:Hid (w.grownBy u1 (some q)∧Rdr u1 q (some ⟨b,off,none⟩) N cap x rm∧u1.heap[q2]? = some (Obj.cells #[.int .i64 0,.int .i64 0,.slice none 0 0] 46)∧u1.heap[q5]? = some (Obj.cells #[.int .i64 k,.int .i64 n,.slice none 0 0] 46)):=by
    obtain ⟨g1,b1,z1,t1⟩:=LD.out;exact ⟨gtr g1 (wide_none hg _),(hg.block _ (lbk b1) (by simp)).trans b1,(hg.block _ (lbk z1) (by simp)).trans z1,(hg.block _ (lbk t1) (by simp)).trans t1⟩
   refine hK.out _ _ ⟨(three LE.out.2.2.2).1,(three LE.out.2.1).1⟩ (fun hH2=>?_);clear hK K hH;have hH:=hH2;clear hH2 hg LD;rw[EF.out];simp only[Act.put,nA,nB,nC,nD,nE,nF];refine tk 13 ?_;obtain ⟨d2,k2⟩:=fill3 (.int .i64 k) (.int .i64 n) (.slice none 0 0) LE.out.2.2.1;obtain ⟨⟨y0,y1,y2⟩,f0,f1,f2⟩:=three LE.out.2.2.1;have FQ:Hid (_∧w.grownBy _ (some q)∧Rdr _ q (some ⟨b,off,none⟩) N cap x rm∧_):=⟨d2,grown_intoR LE.out.1 k2 (by have:=PQ.out;omega),(k2.block _ (lbk LE.out.2.1) (by have:=PQ.out;simp;omega)).trans LE.out.2.1,(k2.block _ (lbk LE.out.2.2.2) (by simp;omega)).trans LE.out.2.2.2⟩;clear d2 k2;refine rd 14 rfl (fun K hK=>?_);go_simp;refine hK.out _ _ ⟨(three FQ.out.2.2.2).1,(three FQ.out.2.2.1).1⟩ (fun hH2=>?_);clear hK K hH;have hH:=hH2;clear hH2 y0 y1 y2 f0 f1 f2;simp only[Act.put,nA,nB,nC,nD,nE,nF];refine tk 15 ?_;refine tk 16 ?_;refine wpAnyH_done (by kernel_rfl) ?_ _;clear hH;go_wp2
   (try simp only[Exit.inBlock,Exit.then])
   refine bodyPost_ret (results_cell3 (P:=Tryz.prog) Tryz.results106 _ _ q2 _ _ _ _ rfl FQ.out.1 Tryz.underlying46 rfl (by kernel_rfl)) rfl ?_;exact ⟨k,n,cc,x,fitsB k n cc,rfl,FQ.out.2.1,FQ.out.2.2.1,HT.out.1,HT.out.2⟩
  by_cases h7:k=7
  ·
   have ES:shpV k = .iface 155 (.agg #[]):=by rw[h7];rfl
   have EF:Hid (fitsB 7 n cc=fitsB k n cc):=by show _=_;rw[h7]
   rw[ES];clear h6 h7 ES;have hmeth:=methVar;refine wp_region_held_drew (S:=(fun u=>Tri q5 0 (.int .i64 k) (.int .i64 n) (.slice none 0 0) u∧Tri q 0 (.slice (some ⟨b,off,none⟩) N cap) (.int .i64 x) (.int .i64 rm) u)) (by kernel_rfl) ⟨(three LD.out.2.2.2).1,(three LD.out.2.1).1⟩ (fun hH=>?_);generalize (World.drew _)=u0 at *;simp only[sA9,lB,lC,Nat.reduceAdd,Array.replicate,List.replicate];refine tk 0 ?_;refine tk 1 ?_;refine tk 2 ?_;refine tk 3 ?_;refine tk 4 ?_;refine tk 5 ?_;refine tk 6 ?_;refine tk 7 ?_;refine tk 8 ?_;refine tk 9 ?_;refine tk 10 ?_;refine tk 11 ?_;refine rd 12 rfl (fun K hK=>?_);go_simp;refine Calls.mono (varFits n cc u0) ?_;rintro e u1 ⟨he,hg⟩;subst he
   have LE:Hid (w.grownBy u1 (some q)∧Rdr u1 q (some ⟨b,off,none⟩) N cap x rm∧u1.heap[q2]? = some (Obj.cells #[.int .i64 0,.int .i64 0,.slice none 0 0] 46)∧u1.heap[q5]? = some (Obj.cells #[.int .i64 k,.int .i64 n,.slice none 0 0] 46)):=by
    obtain ⟨g1,b1,z1,t1⟩:=LD.out;exact ⟨gtr g1 (wide_none hg _),(hg.block _ (lbk b1) (by simp)).trans b1,(hg.block _ (lbk z1) (by simp)).trans z1,(hg.block _ (lbk t1) (by simp)).trans t1⟩
   refine hK.out _ _ ⟨(three LE.out.2.2.2).1,(three LE.out.2.1).1⟩ (fun hH2=>?_);clear hK K hH;have hH:=hH2;clear hH2 hg LD;rw[EF.out];simp only[Act.put,nA,nB,nC,nD,nE,nF];refine tk 13 ?_;obtain ⟨d2,k2⟩:=fill3 (.int .i64 k) (.int .i64 n) (.slice none 0 0) LE.out.2.2.1;obtain ⟨⟨y0,y1,y2⟩,f0,f1,f2⟩:=three LE.out.2.2.1;have FQ:Hid (_∧w.grownBy _ (some q)∧Rdr _ q (some ⟨b,off,none⟩) N cap x rm∧_):=⟨d2,grown_intoR LE.out.1 k2 (by have:=PQ.out;omega),(k2.block _ (lbk LE.out.2.1) (by have:=PQ.out;simp;omega)).trans LE.out.2.1,(k2.block _ (lbk LE.out.2.2.2) (by simp;omega)).trans LE.out.2.2.2⟩;clear d2 k2;refine rd 14 rfl (fun K hK=>?_);go_simp;refine hK.out _ _ ⟨(three FQ.out.2.2.2).1,(three FQ.out.2.2.1).1⟩ (fun hH2=>?_);clear hK K hH;have hH:=hH2;clear hH2 y0 y1 y2 f0 f1 f2;simp only[Act.put,nA,nB,nC,nD,nE,nF];refine tk 15 ?_;refine tk 16 ?_;refine wpAnyH_done (by kernel_rfl) ?_ _;clear hH;go_wp2
   (try simp only[Exit.inBlock,Exit.then])
   refine bodyPost_ret (results_cell3 (P:=Tryz.prog) Tryz.results106 _ _ q2 _ _ _ _ rfl FQ.out.1 Tryz.underlying46 rfl (by kernel_rfl)) rfl ?_;exact ⟨k,n,cc,x,fitsB k n cc,rfl,FQ.out.2.1,FQ.out.2.2.1,HT.out.1,HT.out.2⟩
  by_cases h8:k < 0∨7 < k
  ·
   have ES:shpV k = .iface 163 (.agg #[]):=by unfold shpV;rw[if_neg h6,if_neg h7,if_pos h8]
   have EF:Hid (fitsB 8 n cc=fitsB k n cc):=by show _=_;rw[fitsx (k:=k) (by omega) (by omega) (by omega) (by omega) (by omega) (by omega) (by omega) (by omega),fitsx (by omega) (by omega) (by omega) (by omega) (by omega) (by omega) (by omega) (by omega)]
   rw[ES];clear h6 h7 h8 ES;have hmeth:=methNo;refine wp_region_held_drew (S:=(fun u=>Tri q5 0 (.int .i64 k) (.int .i64 n) (.slice none 0 0) u∧Tri q 0 (.slice (some ⟨b,off,none⟩) N cap) (.int .i64 x) (.int .i64 rm) u)) (by kernel_rfl) ⟨(three LD.out.2.2.2).1,(three LD.out.2.1).1⟩ (fun hH=>?_);generalize (World.drew _)=u0 at *;simp only[sA9,lB,lC,Nat.reduceAdd,Array.replicate,List.replicate];refine tk 0 ?_;refine tk 1 ?_;refine tk 2 ?_;refine tk 3 ?_;refine tk 4 ?_;refine tk 5 ?_;refine tk 6 ?_;refine tk 7 ?_;refine tk 8 ?_;refine tk 9 ?_;refine tk 10 ?_;refine tk 11 ?_;refine rd 12 rfl (fun K hK=>?_);go_simp;refine Calls.mono (noFits n cc u0) ?_;rintro e u1 ⟨he,hg⟩;subst he
   have LE:Hid (w.grownBy u1 (some q)∧Rdr u1 q (some ⟨b,off,none⟩) N cap x rm∧u1.heap[q2]? = some (Obj.cells #[.int .i64 0,.int .i64 0,.slice none 0 0] 46)∧u1.heap[q5]? = some (Obj.cells #[.int .i64 k,.int .i64 n,.slice none 0 0] 46)):=by
    obtain ⟨g1,b1,z1,t1⟩:=LD.out;exact ⟨gtr g1 (wide_none hg _),(hg.block _ (lbk b1) (by simp)).trans b1,(hg.block _ (lbk z1) (by simp)).trans z1,(hg.block _ (lbk t1) (by simp)).trans t1⟩
   refine hK.out _ _ ⟨(three LE.out.2.2.2).1,(three LE.out.2.1).1⟩ (fun hH2=>?_);clear hK K hH;have hH:=hH2;clear hH2 hg LD;rw[EF.out];simp only[Act.put,nA,nB,nC,nD,nE,nF];refine tk 13 ?_;obtain ⟨d2,k2⟩:=fill3 (.int .i64 k) (.int .i64 n) (.slice none 0 0) LE.out.2.2.1;obtain ⟨⟨y0,y1,y2⟩,f0,f1,f2⟩:=three LE.out.2.2.1;have FQ:Hid (_∧w.grownBy _ (some q)∧Rdr _ q (some ⟨b,off,none⟩) N cap x rm∧_):=⟨d2,grown_intoR LE.out.1 k2 (by have:=PQ.out;omega),(k2.block _ (lbk LE.out.2.1) (by have:=PQ.out;simp;omega)).trans LE.out.2.1,(k2.block _ (lbk LE.out.2.2.2) (by simp;omega)).trans LE.out.2.2.2⟩;clear d2 k2;refine rd 14 rfl (fun K hK=>?_);go_simp;refine hK.out _ _ ⟨(three FQ.out.2.2.2).1,(three FQ.out.2.2.1).1⟩ (fun hH2=>?_);clear hK K hH;have hH:=hH2;clear hH2 y0 y1 y2 f0 f1 f2;simp only[Act.put,nA,nB,nC,nD,nE,nF];refine tk 15 ?_;refine tk 16 ?_;refine wpAnyH_done (by kernel_rfl) ?_ _;clear hH;go_wp2
   (try simp only[Exit.inBlock,Exit.then])
   refine bodyPost_ret (results_cell3 (P:=Tryz.prog) Tryz.results106 _ _ q2 _ _ _ _ rfl FQ.out.1 Tryz.underlying46 rfl (by kernel_rfl)) rfl ?_;exact ⟨k,n,cc,x,fitsB k n cc,rfl,FQ.out.2.1,FQ.out.2.2.1,HT.out.1,HT.out.2⟩
  obtain ⟨sv,z,bv,hV,hF⟩:=fixV_is k n cc (by omega) (by omega)
  have ES:shpV k = .iface 153 (.agg #[.string sv,.int .i64 z,.bool bv]):=by unfold shpV;rw[if_neg h6,if_neg h7,if_neg h8,hV]
  have EF:Hid ((decide (n=0) && decide ((cc:Int)=z))=fitsB k n cc):=hF;rw[ES];clear h6 h7 h8 ES hV hF;have hmeth:=methFix (.agg #[.string sv,.int .i64 z,.bool bv]);refine wp_region_held_drew (S:=(fun u=>Tri q5 0 (.int .i64 k) (.int .i64 n) (.slice none 0 0) u∧Tri q 0 (.slice (some ⟨b,off,none⟩) N cap) (.int .i64 x) (.int .i64 rm) u)) (by kernel_rfl) ⟨(three LD.out.2.2.2).1,(three LD.out.2.1).1⟩ (fun hH=>?_);generalize (World.drew _)=u0 at *;simp only[sA9,lB,lC,Nat.reduceAdd,Array.replicate,List.replicate];refine tk 0 ?_;refine tk 1 ?_;refine tk 2 ?_;refine tk 3 ?_;refine tk 4 ?_;refine tk 5 ?_;refine tk 6 ?_;refine tk 7 ?_;refine tk 8 ?_;refine tk 9 ?_;refine tk 10 ?_;refine tk 11 ?_;refine rd 12 rfl (fun K hK=>?_);go_simp;refine Calls.mono (fixFits sv bv z n cc u0) ?_;rintro e u1 ⟨he,hg⟩;subst he
  have LE:Hid (w.grownBy u1 (some q)∧Rdr u1 q (some ⟨b,off,none⟩) N cap x rm∧u1.heap[q2]? = some (Obj.cells #[.int .i64 0,.int .i64 0,.slice none 0 0] 46)∧u1.heap[q5]? = some (Obj.cells #[.int .i64 k,.int .i64 n,.slice none 0 0] 46)):=by
   obtain ⟨g1,b1,z1,t1⟩:=LD.out;exact ⟨gtr g1 (wide_none hg _),(hg.block _ (lbk b1) (by simp)).trans b1,(hg.block _ (lbk z1) (by simp)).trans z1,(hg.block _ (lbk t1) (by simp)).trans t1⟩
  refine hK.out _ _ ⟨(three LE.out.2.2.2).1,(three LE.out.2.1).1⟩ (fun hH2=>?_);clear hK K hH;have hH:=hH2;clear hH2 hg LD;rw[EF.out];simp only[Act.put,nA,nB,nC,nD,nE,nF];refine tk 13 ?_;obtain ⟨d2,k2⟩:=fill3 (.int .i64 k) (.int .i64 n) (.slice none 0 0) LE.out.2.2.1;obtain ⟨⟨y0,y1,y2⟩,f0,f1,f2⟩:=three LE.out.2.2.1;have FQ:Hid (_∧w.grownBy _ (some q)∧Rdr _ q (some ⟨b,off,none⟩) N cap x rm∧_):=⟨d2,grown_intoR LE.out.1 k2 (by have:=PQ.out;omega),(k2.block _ (lbk LE.out.2.1) (by have:=PQ.out;simp;omega)).trans LE.out.2.1,(k2.block _ (lbk LE.out.2.2.2) (by simp;omega)).trans LE.out.2.2.2⟩;clear d2 k2;refine rd 14 rfl (fun K hK=>?_);go_simp;refine hK.out _ _ ⟨(three FQ.out.2.2.2).1,(three FQ.out.2.2.1).1⟩ (fun hH2=>?_);clear hK K hH;have hH:=hH2;clear hH2 y0 y1 y2 f0 f1 f2;simp only[Act.put,nA,nB,nC,nD,nE,nF];refine tk 15 ?_;refine tk 16 ?_;refine wpAnyH_done (by kernel_rfl) ?_ _;clear hH;go_wp2
  (try simp only[Exit.inBlock,Exit.then])
  refine bodyPost_ret (results_cell3 (P:=Tryz.prog) Tryz.results106 _ _ q2 _ _ _ _ rfl FQ.out.1 Tryz.underlying46 rfl (by kernel_rfl)) rfl ?_;exact ⟨k,n,cc,x,fitsB k n cc,rfl,FQ.out.2.1,FQ.out.2.2.1,HT.out.1,HT.out.2⟩
end Go.Proofs.YtnmlbeefjjohfaaGreatDoor.By
