/-
  No statement is proved here.
-/
import Derived.Test.YtnmlbeefjjohfaaGreatDoorQEAlsoSh
namespace Go.Proofs.YtnmlbeefjjohfaaGreatDoor.By
set_option maxRecDepth 100000
set_option maxHeartbeats 16000000
open Go.RowKit
set_option linter.unusedVariables false
set_option linter.unusedSimpArgs false
theorem convQ (q:Nat) (z0 z1:Int) (w:World) (h:w.heap[q]? = some (.cells #[.int .u8 z0,.int .u8 z1] 5 (0,0))):∃ w',(convert 22 22 (.slice (some ⟨q,0,none⟩) 2 2)).run Tryz.prog w = .ok (.slice (some ⟨q,0,none⟩) 2 2) w'∧w.grownBy w' (some q)∧∃ fr,w'.heap[q]? = some (.cells #[.int .u8 z0,.int .u8 z1] 5 fr):=by
 have hs:w.shape? q=some (5,2):=by simp [World.shape?,h]
 refine ⟨w.freeze ⟨q,2,none⟩ 1,?_,⟨rfl,rfl,rfl,?_,?_⟩,?_⟩
 ·
  simp [convert,run_underlying Tryz.underlying22,run_underlying Tryz.underlying5,markStringish,hs]
 ·
  simp [World.freeze]
 ·
  intro k hk hne
  have:q≠k:=fun e=>hne (by rw[e])
  simp [World.freeze,Array.getElem?_modify,this]
 ·
  simp [World.freeze,Array.getElem?_modify,h]
def okP (x:RProg):Bool:=standsV x && decide (([76,75]++progB x).length≤30000)
def codeV (x:RProg):List Int:=if okP x then [76,75]++progB x else []
theorem progB_len {x:RProg} (hv:standsV x=true):(progB x).length≤31000000∧1≤(progB x).length:=by
 unfold standsV laysV at hv;simp only[bA9,dE9,Bool.not_eq_true'] at hv;obtain ⟨⟨n1,n2⟩,⟨⟨n3,hlay⟩,hcap⟩,hblk⟩:=hv;have n5:=capsV_len hcap;have hnA:=numB_len (x.lays.length:Int);have hnB:=numB_len (x.blks.length:Int);have hnC:=numB_len (x.caps.length:Int);have hs1:=laysB_len x.lays hlay;have hs2:=blksB_len x.blks hblk;have hs3:=numsB_len x.caps
 have h1:(numB (x.lays.length:Int)).length=1:=by
  rw[numB_in (by omega) (by omega),putB_small (by omega)];rfl
 simp only[progB,lA];exact ⟨by omega,by omega⟩
theorem implCodeT (x:RProg) (a1:Option Addr) (l1 c1:Nat) (a2:Option Addr) (l2 c2:Nat) (a3:Option Addr) (l3 c3:Nat) (w:World) (h:RdProg w x a1 l1 a2 l2 a3 l3) (hF:OpsIn w) (hM:l1≤4194304) :
  Calls Tryz.prog 43 #[.agg #[.slice a1 l1 c1,.slice a2 l2 c2,.slice a3 l3 c3]] w fun e u=>∃ a' c',e = .returned (.tuple #[.slice a' (codeV x).length c',.bool (okP x)])∧w.grownBy u none∧OwB w.heap.size u a' (codeV x).length c' (codeV x):=by
 have g0:=gal w (.cells #[.slice a1 l1 c1,.slice a2 l2 c2,.slice a3 l3 c3] 27) none;have b0:=hnw w (.cells #[.slice a1 l1 c1,.slice a2 l2 c2,.slice a3 l3 c3] 27);have C0:Hid _:=programStandsT x a1 l1 c1 a2 l2 c2 a3 l3 c3 (w.alloc (.cells #[.slice a1 l1 c1,.slice a2 l2 c2,.slice a3 l3 c3] 27)) (h.none g0) (hF.none g0) hM
 have HS:Hid (∀ u,w.grownBy u none→RdProg u x a1 l1 a2 l2 a3 l3∧OpsIn u):=fun u hu=>⟨h.none hu,hF.none hu⟩
 have L0:Hid (w.grownBy _ none∧_=some (Obj.cells #[.slice a1 l1 c1,.slice a2 l2 c2,.slice a3 l3 c3] 27)):=⟨g0,b0⟩;obtain ⟨⟨y0,y1,y2⟩,-⟩:=blkProg b0;clear h hF g0 b0;go_enter Tryz.func43,Tryz.ntmps43;go_wp2_with fail;refine Calls.mono C0.out ?_;rintro e u0 ⟨he,hg⟩;subst he;have L1:Hid (w.grownBy u0 none∧u0.heap[w.heap.size]? = some (Obj.cells #[.slice a1 l1 c1,.slice a2 l2 c2,.slice a3 l3 c3] 27)):=⟨gtr L0.out.1 hg,(hg.block _ (lbk L0.out.2) (by simp)).trans L0.out.2⟩;clear C0 L0 hg y0 y1 y2;have HP0:Hid (w.heap.size=w.heap.size):=rfl;generalize hp0:w.heap.size=p0 at *;simp only[]
 cases hst:standsV x with
 | false =>
  have E:Hid (okP x=false∧codeV x=[]):=by
   have:okP x=false:=by unfold okP;rw[hst];rfl
   exact ⟨this,by unfold codeV;rw[this];rfl⟩
  go_wp2;go_ret2;refine ⟨none,0,?_,L1.out.1,?_⟩
  ·
   rw[E.out.1,E.out.2];rfl
  ·
   rw[E.out.2];exact OwB.nil _ _
 | true =>
  obtain ⟨hbl,hb1⟩:=progB_len hst;have ga:=gal u0 (.cells #[.int .u8 76,.int .u8 75] 5) none;have ba:=hnw u0 (.cells #[.int .u8 76,.int .u8 75] 5);obtain ⟨wb,hcv,kcv,fr,bcv⟩:=convQ u0.heap.size 76 75 (u0.alloc (.cells #[.int .u8 76,.int .u8 75] 5)) ba;have gb:u0.grownBy wb none:=grown_into ga kcv (Nat.le_refl _);have gc:=gal wb (.cells #[.slice (some ⟨u0.heap.size,0,none⟩) 2 2] 102) none;have bc:=hnw wb (.cells #[.slice (some ⟨u0.heap.size,0,none⟩) 2 2] 102);have hsz:u0.heap.size≤wb.heap.size:=gb.size;have W1:Hid (WrS u0.heap.size wb.heap.size (wb.alloc (.cells #[.slice (some ⟨u0.heap.size,0,none⟩) 2 2] 102)) (.slice (some ⟨u0.heap.size,0,none⟩) 2 2) [76,75]):=⟨bc,.inr ⟨⟨_,fr,76,75,rfl,Nat.le_refl _,(gc.block _ (lbk bcv) (by simp)).trans bcv,rfl⟩,rfl⟩,by (intro e;cases e),hsz,by have:=gc.size;omega⟩;have gu:=gtr gb gc;have bl:Below u0.heap.size u0 (wb.alloc (.cells #[.slice (some ⟨u0.heap.size,0,none⟩) 2 2] 102)):=(Below.refl _ _).grown gu (Nat.le_refl _) (fun k hk=>by simp at hk)
  have C1:Hid _:=programWT u0.heap.size wb.heap.size _ [76,75] x a1 l1 c1 a2 l2 c2 a3 l3 c3 u0 (wb.alloc (.cells #[.slice (some ⟨u0.heap.size,0,none⟩) 2 2] 102)) rfl W1.out bl (HS.out _ L1.out.1).1 (HS.out _ L1.out.1).2 hst (by simp);have PB:Hid ((wb.alloc (.cells #[.slice (some ⟨u0.heap.size,0,none⟩) 2 2] 102)).heap[p0]? = some (Obj.cells #[.slice a1 l1 c1,.slice a2 l2 c2,.slice a3 l3 c3] 27)):=(gu.block _ (lbk L1.out.2) (by simp)).trans L1.out.2;have LT:Hid (w.grownBy u0 none∧Below u0.heap.size u0 (wb.alloc (.cells #[.slice (some ⟨u0.heap.size,0,none⟩) 2 2] 102))):=⟨L1.out.1,bl⟩;obtain ⟨⟨y0,y1,y2⟩,-⟩:=blkProg L1.out.2;obtain ⟨⟨z0,z1,z2⟩,-⟩:=blkProg PB.out;clear ga ba kcv bcv gb gc bc hsz gu bl W1 L1;go_wp2_with fail;refine Calls.mono C1.out ?_;rintro e u9 ⟨he,v9,hw,hf⟩;subst he
  have hlen:([76,75]++progB x:List Int).length=(progB x).length+2:=by simp
  obtain ⟨g9,cp9,rfl⟩:=hw.own.form hw.nn
  have hown:u9.ownsRow u0.heap.size 5 1 (.slice (some ⟨g9,0,none⟩) ([76,75]++progB x).length cp9) ([76,75]++progB x).length (vals ([76,75]++progB x)):=by
   rcases hw.own with ⟨h,_⟩|⟨_,h⟩
   ·
    exact h
   ·
    rw[hlen] at h;omega
  have cb:=(hw.cell).1;have G9:Hid (w.grownBy u9 none∧OwB p0 u9 (some ⟨g9,0,none⟩) ([76,75]++progB x).length cp9 ([76,75]++progB x)):=⟨gtr LT.out.1 (grown_of_below (LT.out.2.trans hf.below)),OwB.mono ⟨hown,rfl⟩ (by rw[← hp0];exact LT.out.1.size)⟩;clear C1 hw hf hown y0 y1 y2 z0 z1 z2 PB LT hcv;generalize wb.heap.size=q at *
  have HL:Hid (okP x=decide (([76,75]++progB x).length≤30000)):=by show _=_;unfold okP;rw[hst,Bool.true_and]
  have HC:Hid (okP x=true→codeV x=[76,75]++progB x):=fun e=>by unfold codeV;rw[if_pos e]
  have HD:Hid (okP x=false→codeV x=[]):=fun e=>by unfold codeV;rw[e];rfl
  generalize ([76,75]++progB x:List Int)=BB at *;clear hlen;simp only[];by_cases hk:BB.length≤30000
  ·
   have hk':¬ ((BB.length:Nat):Int) > 30000:=by omega
   have E1:Hid (okP x=true):=by show _=_;rw[HL.out];simpa using hk
   go_wp2;go_ret2;refine ⟨some ⟨g9,0,none⟩,cp9,?_,G9.out.1,?_⟩
   ·
    rw[HC.out E1.out,E1.out];rfl
   ·
    rw[HC.out E1.out];exact G9.out.2
  ·
   have hk':((BB.length:Nat):Int) > 30000:=by omega
   have E1:Hid (okP x=false):=by show _=_;rw[HL.out];simp;omega
   go_wp2;go_ret2;refine ⟨none,0,?_,G9.out.1,?_⟩
   ·
    rw[HD.out E1.out,E1.out];rfl
   ·
    rw[HD.out E1.out];exact OwB.nil _ _
theorem implProgT (x:RProg) (a1:Option Addr) (l1 c1:Nat) (a2:Option Addr) (l2 c2:Nat) (a3:Option Addr) (l3 c3:Nat) (w:World) (h:RdProg w x a1 l1 a2 l2 a3 l3) (hF:OpsIn w) (hM:l1≤4194304) :
  Calls Tryz.prog 19 #[.agg #[.slice a1 l1 c1,.slice a2 l2 c2,.slice a3 l3 c3]] w fun e u=>e = .returned (.bool (okP x))∧w.grownBy u none:=by
 have g0:=gal w (.cells #[.slice a1 l1 c1,.slice a2 l2 c2,.slice a3 l3 c3] 27) none;have b0:=hnw w (.cells #[.slice a1 l1 c1,.slice a2 l2 c2,.slice a3 l3 c3] 27);have C0:Hid _:=implCodeT x a1 l1 c1 a2 l2 c2 a3 l3 c3 (w.alloc (.cells #[.slice a1 l1 c1,.slice a2 l2 c2,.slice a3 l3 c3] 27)) (h.none g0) (hF.none g0) hM;have G0:Hid _:=g0;obtain ⟨⟨y0,y1,y2⟩,-⟩:=blkProg b0;clear h hF g0 b0;go_enter Tryz.func19,Tryz.ntmps19;go_wp2_with fail;refine Calls.mono C0.out ?_;rintro e u ⟨a',c',he,hg,-⟩;subst he;have G1:Hid (w.grownBy u none):=gtr G0.out hg;clear C0 hg G0 y0 y1 y2;simp only[];go_wp2;go_ret;exact ⟨rfl,G1.out⟩
theorem conv_run {w:World} {a:Option Addr} {n c:Nat} {zs:List Int} (h:Reads w a n zs):(convert 22 9 (.slice a n c)).run Tryz.prog w = .ok (.string (strOfNums zs)) w:=by
 obtain ⟨hl,h⟩:=h;rcases h with rfl|⟨b,o,rfl,hc⟩
 ·
  obtain rfl:zs=[]:=lz0 hl
  cases a with
  | none =>
   have:=run_convert_bytes_nil (P:=Tryz.prog) w 22 5 Tryz.underlying22 Tryz.underlying5 0 c 9 Tryz.underlying9;rw[this];rfl
  | some x =>
   have hl0:(loadCells x 0).run Tryz.prog w = .ok (([]:List Int).map (Value.int .u8)).toArray w:=by
    have:=run_loadCells_list (P:=Tryz.prog) w x ([]:List Value) (fun j v hj=>by simp at hj);simpa using this
   rw[run_convert_bytes_string w 22 9 5 _ 0 c Tryz.underlying22 Tryz.underlying5 Tryz.underlying9,run_bytesToString w x 0 c [] hl0];rfl
 ·
  exact run_convert_bytes_arg (P:=Tryz.prog) w 22 5 Tryz.underlying22 Tryz.underlying5 b o n c zs hl hc 9 Tryz.underlying9
theorem str_inj {xs ys:List Int} (hx:Byt xs) (hy:Byt ys) (h:strOfNums xs=strOfNums ys):xs=ys:=by
 have hl:xs.map (fun n=>UInt8.ofNat n.toNat)=ys.map (fun n=>UInt8.ofNat n.toNat):=by
  have:=congrArg (fun s:ByteArray=>s.data.toList) h;simpa [strOfNums] using this
 clear h
 induction xs generalizing ys with
 | nil =>
  cases ys with
  | nil=>rfl
  | cons y ys=>simp at hl
 | cons x xs ih =>
  cases ys with
  | nil=>simp at hl
  | cons y ys =>
   simp only[List.map_cons,List.cons.injEq] at hl;have h1:=hx x (by simp);have h2:=hy y (by simp);have e:=congrArg UInt8.toNat hl.1;rw[UInt8.toNat_ofNat',UInt8.toNat_ofNat'] at e
   have:x=y:=by omega
   rw[this,ih (fun z hz=>hx z (List.mem_cons_of_mem _ hz)) (fun z hz=>hy z (List.mem_cons_of_mem _ hz)) hl.2]
theorem str_eq {xs ys:List Int} (hx:Byt xs) (hy:Byt ys):decide (strOfNums xs=strOfNums ys)=decide (xs=ys):=by
 by_cases h:xs=ys
 ·
  simp [h]
 ·
  have:¬ strOfNums xs=strOfNums ys:=fun e=>h (str_inj hx hy e)
  simp [h,this]
theorem toL_beq (s t:ByteArray):(s.toList == t.toList)=decide (s=t):=by
 by_cases h:s=t
 ·
  simp [h]
 ·
  have:¬ s.toList=t.toList:=fun e=>h (by
   rw[ByteArray.toList_eq,ByteArray.toList_eq] at e
   exact ByteArray.ext (Array.toList_inj.mp e))
  simp [h,this]
theorem bytesEqT (a a':Option Addr) (n c n' c':Nat) (xs ys:List Int) (w:World) (h:RdB w a n xs) (h':RdB w a' n' ys) :
  Calls Tryz.prog 36 #[.slice a n c,.slice a' n' c'] w fun e u=>e = .returned (.bool (decide (xs=ys)))∧w.grownBy u none:=by
 have h1:(convert 22 9 (.slice a n c)).run Tryz.prog w = .ok (.string (strOfNums xs)) w:=conv_run h.1;have h2:(convert 22 9 (.slice a' n' c')).run Tryz.prog w = .ok (.string (strOfNums ys)) w:=conv_run h'.1;have E:Hid (decide (strOfNums xs=strOfNums ys)=decide (xs=ys)):=str_eq h.2.1 h'.2.1;clear h h';generalize strOfNums xs=s at *;generalize strOfNums ys=t at *;go_enter Tryz.func36,Tryz.ntmps36;go_wp2;go_ret;refine ⟨?_,grf _ _⟩;rw[← E.out];rw[← toL_beq];rfl
def prog0:RProg:=⟨[],[],[]⟩
def rdOk (P:Par) (zs:List Int):Bool:=decide (zs.length≤30000) && (decide (zs.take 2=[76,75]) && (decide ((progP P 2).2=zs.length) && okP (progP P 2).1))
def rdX (P:Par) (zs:List Int):RProg:=if rdOk P zs=true then (progP P 2).1 else prog0
def RdA (w u:World) (x:RProg) (ok:Bool) (e:Ending):Prop :=
 ∃ a1 c1 a2 c2 a3 c3 b1 b2 b3,e = .returned (.tuple #[.agg #[.slice a1 x.lays.length c1,.slice a2 x.blks.length c2,.slice a3 x.caps.length c3],.bool ok])∧w.grownBy u none∧OwP u x a1 x.lays.length c1 a2 x.blks.length c2 a3 x.caps.length c3 b1 b2 b3∧(b1++b2++b3).Nodup∧∀ y ∈ b1++b2++b3,w.heap.size≤y
theorem hasPrefixT (g N q:Nat) (zs:List Int) (w:World) (h:Row w g N zs) (hl:zs.length=N) (hz:Byt zs) (hN:N≤1048576) (hq:RdB w (some ⟨q,0,none⟩) 2 [76,75]) :
  Calls Tryz.prog 17 #[.slice (some ⟨g,0,none⟩) N N,.slice (some ⟨q,0,none⟩) 2 2] w fun e u=>e = .returned (.bool (decide (zs.take 2=[76,75])))∧w.grownBy u none:=by
 by_cases h2:2≤N
 ·
  have hr:RdB w (some ⟨g,0,none⟩) 2 (zs.take 2):=by
   refine ⟨⟨by simp;omega,.inr ⟨g,0,rfl,fun i hi=>?_⟩⟩,fun z hz'=>hz z (List.mem_of_mem_take hz'),by omega⟩;rw[Nat.zero_add,h.cell i (by omega)];simp only[List.getD_eq_getElem?_getD];rw[List.getElem?_take_of_lt hi]
  have C0:Hid _:=bytesEqT (some ⟨g,0,none⟩) (some ⟨q,0,none⟩) 2 N 2 2 (zs.take 2) [76,75] w hr hq;clear h hz hr hq;go_enter Tryz.func17,Tryz.ntmps17;go_wp2_with fail;refine Calls.mono C0.out ?_;rintro e u ⟨rfl,hg⟩;have G:Hid _:=hg;clear C0 hg;simp only[];obtain ⟨r,hr⟩:∃ r,decide (zs.take 2=[76,75])=r:=⟨_,rfl⟩;have HRR:Hid (decide (zs.take 2=[76,75])=r):=hr;rw[hr];clear hr;go_wp2;go_ret;exact ⟨by rw[HRR.out];rfl,G.out⟩
 ·
  have E:Hid (decide (zs.take 2=[76,75])=false):=by
   show _=_
   rw[decide_eq_false_iff_not];intro e;have:=congrArg List.length e;simp at this;omega
  clear h hz hq;go_enter Tryz.func17,Tryz.ntmps17;go_wp2;go_ret;exact ⟨by rw[E.out];rfl,grf _ _⟩
theorem implReadT (g N:Nat) (zs:List Int) (w:World) (h:Row w g N zs) (hl:zs.length=N) (hz:Byt zs) (hN:N≤1048576) (hF:OpsIn w) :
  Calls Tryz.prog 6 #[.slice (some ⟨g,0,none⟩) N N] w fun e u=>RdA w u (rdX (parI zs) zs) (rdOk (parI zs) zs) e:=by
 have g0:=gal w (.cells #[.slice none 0 0,.slice none 0 0,.slice none 0 0] 27) none;have L0:Hid (w.grownBy (w.alloc (.cells #[.slice none 0 0,.slice none 0 0,.slice none 0 0] 27)) none∧(w.alloc (.cells #[.slice none 0 0,.slice none 0 0,.slice none 0 0] 27)).heap[w.heap.size]? = some (.cells #[.slice none 0 0,.slice none 0 0,.slice none 0 0] 27)):=⟨g0,hnw w _⟩
 have HR:Hid (∀ u,w.grownBy u none→Row u g N zs∧OpsIn u):=fun u hu=>⟨h.kept hu (by simp),hF.none hu⟩
 have HGW:Hid (g < w.heap.size):=h.lt;have HZ:Hid (zs.length=N∧Byt zs):=⟨hl,hz⟩;clear h hF g0 hl hz;by_cases hlong:30000 < N
 ·
  have EO:Hid (rdOk (parI zs) zs=false):=by show _=_;unfold rdOk;rw[HZ.out.1,show decide (N≤30000)=false by simpa using hlong];rfl
  go_enter Tryz.func6,Tryz.ntmps6;go_upto_region 1 with fail;generalize w.alloc (.cells #[.slice none 0 0,.slice none 0 0,.slice none 0 0] 27)=w0 at *;generalize e2:w.heap.size=q2 at *;have PE:Hid (w.heap.size=q2):=e2;have LZ:Hid _:=L0.out;clear e2 L0;obtain ⟨⟨y0,y1,y2⟩,hfy⟩:=blkProg LZ.out.2;have f0:=hfy 0;have f1:=hfy 1;have f2:=hfy 2;obtain ⟨dz,kz⟩:=fillProg (.slice none 0 0) (.slice none 0 0) (.slice none 0 0) LZ.out.2;have FQ:Hid (_∧w.grownBy _ none):=⟨dz,grown_into LZ.out.1 kz (by have:=PE.out;omega)⟩;clear hfy dz kz LZ;go_wp2
  (try simp only[Exit.inBlock,Exit.then])
  refine bodyPost_ret (results_cell2 (P:=Tryz.prog) Tryz.results6 _ _ q2 _ _ _ _ rfl FQ.out.1 Tryz.underlying27 rfl (by kernel_rfl)) rfl ?_;unfold rdX;rw[EO.out];exact ⟨none,0,none,0,none,0,[],[],[],rfl,FQ.out.2,⟨SlG.nil _ _ _ _,SlG.nil _ _ _ _,SlG.nil _ _ _ _,fun b hb=>by simp [prog0] at hb⟩,by simp,fun y hy=>by simp at hy⟩
 ·
  have hN3:N≤30000:=by omega
  have EL:Hid (decide (zs.length≤30000)=true):=by show _=_;rw[HZ.out.1];simpa using hN3
  go_enter Tryz.func6,Tryz.ntmps6;go_upto_region 1 with fail;generalize w.alloc (.cells #[.slice none 0 0,.slice none 0 0,.slice none 0 0] 27)=w0 at *;generalize e2:w.heap.size=q2 at *;have PE:Hid (w.heap.size=q2):=e2;clear e2;have ga:=gal w0 (.cells #[.int .u8 76,.int .u8 75] 5) none;have ba:=hnw w0 (.cells #[.int .u8 76,.int .u8 75] 5);obtain ⟨wb,hcv,kcv,fr,bcv⟩:=convQ w0.heap.size 76 75 (w0.alloc (.cells #[.int .u8 76,.int .u8 75] 5)) ba;have gb:w0.grownBy wb none:=grown_into ga kcv (Nat.le_refl _)
  have rb:RdB wb (some ⟨w0.heap.size,0,none⟩) 2 [76,75]:=by
   refine ⟨⟨rfl,.inr ⟨_,0,rfl,fun i hi=>?_⟩⟩,by intro z hz;simp at hz;omega,by omega⟩;rw[Nat.zero_add,cell_of_row wb w0.heap.size i _ 5 fr bcv]
   match i,hi with
   | 0,_=>rfl
   | 1,_=>rfl
  have L1:Hid (w.grownBy wb none∧wb.heap[q2]? = some (.cells #[.slice none 0 0,.slice none 0 0,.slice none 0 0] 27)):=⟨gtr L0.out.1 gb,(gb.block _ (lbk L0.out.2) (by simp)).trans L0.out.2⟩;have C1:Hid _:=hasPrefixT g N w0.heap.size zs wb (HR.out _ L1.out.1).1 HZ.out.1 HZ.out.2 hN rb;clear ga ba kcv bcv gb rb L0;go_wp2_with fail;refine Calls.mono C1.out ?_;rintro e u1 ⟨rfl,hg⟩;have L2:Hid (w.grownBy u1 none∧u1.heap[q2]? = some (.cells #[.slice none 0 0,.slice none 0 0,.slice none 0 0] 27)):=⟨gtr L1.out.1 hg,(hg.block _ (lbk L1.out.2) (by simp)).trans L1.out.2⟩;clear C1 L1 hg hcv;generalize w0.heap.size=qz at *;simp only[]
  cases hpf:decide (zs.take 2=[76,75]) with
  | false =>
   have EO:Hid (rdOk (parI zs) zs=false):=by show _=_;unfold rdOk;rw[hpf,Bool.false_and,Bool.and_false]
   have LZ:Hid _:=L2.out;clear L2 hpf;obtain ⟨⟨y0,y1,y2⟩,hfy⟩:=blkProg LZ.out.2;have f0:=hfy 0;have f1:=hfy 1;have f2:=hfy 2;obtain ⟨dz,kz⟩:=fillProg (.slice none 0 0) (.slice none 0 0) (.slice none 0 0) LZ.out.2;have FQ:Hid (_∧w.grownBy _ none):=⟨dz,grown_into LZ.out.1 kz (by have:=PE.out;omega)⟩;clear hfy dz kz LZ;go_wp2
   (try simp only[Exit.inBlock,Exit.then])
   refine bodyPost_ret (results_cell2 (P:=Tryz.prog) Tryz.results6 _ _ q2 _ _ _ _ rfl FQ.out.1 Tryz.underlying27 rfl (by kernel_rfl)) rfl ?_;unfold rdX;rw[EO.out];exact ⟨none,0,none,0,none,0,[],[],[],rfl,FQ.out.2,⟨SlG.nil _ _ _ _,SlG.nil _ _ _ _,SlG.nil _ _ _ _,fun b hb=>by simp [prog0] at hb⟩,by simp,fun y hy=>by simp at hy⟩
  | true =>
   have h2N:2≤N:=by
    have:=of_decide_eq_true hpf;have h9:=congrArg List.length this;simp at h9;have:=HZ.out.1;omega
   have EP:Hid (decide (zs.take 2=[76,75])=true):=hpf;clear hpf;have gc:=gal u1 (.cells #[.slice (some ⟨g,0,none⟩) N N,.int .i64 2] 56) none;have bc:CRd (u1.alloc (.cells #[.slice (some ⟨g,0,none⟩) N N,.int .i64 2] 56)) u1.heap.size g N 2:=hnw u1 _;have hgw:=HGW.out;have hsz1:=L2.out.1.size;have C2:Hid _:=progC u1.heap.size g N zs 2 (u1.alloc (.cells #[.slice (some ⟨g,0,none⟩) N N,.int .i64 2] 56)) ⟨(HR.out _ (gtr L2.out.1 gc)).1,HZ.out.1,HZ.out.2,hN3,by have:=PE.out;omega⟩ bc (HR.out _ (gtr L2.out.1 gc)).2 (by omega);have L3:Hid (w.grownBy (u1.alloc (.cells #[.slice (some ⟨g,0,none⟩) N N,.int .i64 2] 56)) none∧(u1.alloc (.cells #[.slice (some ⟨g,0,none⟩) N N,.int .i64 2] 56)).heap[q2]? = some (.cells #[.slice none 0 0,.slice none 0 0,.slice none 0 0] 27)∧q2 < u1.heap.size):=⟨gtr L2.out.1 gc,(gc.block _ (lbk L2.out.2) (by simp)).trans L2.out.2,lbk L2.out.2⟩;clear gc bc hgw hsz1 L2;go_wp2_with fail
   generalize u1.alloc (.cells #[.slice (some ⟨g,0,none⟩) N N,.int .i64 2] 56)=u2 at *;generalize u1.heap.size=q at *;refine Calls.mono C2.out ?_;rintro e u3 ⟨a1,c1,a2,c2,a3,c3,b1,b2,b3,rfl,hg,hc,hO,hnd,hlo⟩;obtain ⟨X,r,hR⟩:∃ X r,progP (parI zs) 2=(X,r):=⟨_,_,rfl⟩;have HX:Hid (progP (parI zs) 2=(X,r)):=hR;rw[hR] at hc hO;rw[hR];clear hR;simp only[] at hc hO ⊢;have L4:Hid (w.grownBy u3 none∧u3.heap[q2]? = some (.cells #[.slice none 0 0,.slice none 0 0,.slice none 0 0] 27)∧CRd u3 q g N r∧OwP u3 X a1 X.lays.length c1 a2 X.blks.length c2 a3 X.caps.length c3 b1 b2 b3∧(b1++b2++b3).Nodup∧(∀ y ∈ b1++b2++b3,q2 < y)∧q2 < q):=⟨grown_into L3.out.1 hg (by have:=PE.out;have:=L3.out.2.2;omega),(hg.block _ (lbk L3.out.2.1) (by have:=L3.out.2.2;simp;omega)).trans L3.out.2.1,hc,hO,hnd,fun y hy=>by have:=hlo y hy;have:=lbk L3.out.2.1;omega,L3.out.2.2⟩;clear C2 L3 hg hc hO hnd hlo;obtain ⟨l1,hl1⟩:∃ l,X.lays.length=l:=⟨_,rfl⟩
   obtain ⟨l2,hl2⟩:∃ l,X.blks.length=l:=⟨_,rfl⟩;obtain ⟨l3,hl3⟩:∃ l,X.caps.length=l:=⟨_,rfl⟩;have HLL:Hid (X.lays.length=l1∧X.blks.length=l2∧X.caps.length=l3):=⟨hl1,hl2,hl3⟩;rw[hl1,hl2,hl3] at L4 ⊢;clear hl1 hl2 hl3;have ga:=gal u3 (.cells #[.slice a1 l1 c1,.slice a2 l2 c2,.slice a3 l3 c3] 27) none;have ba:=hnw u3 (.cells #[.slice a1 l1 c1,.slice a2 l2 c2,.slice a3 l3 c3] 27);have L5:Hid (w.grownBy (u3.alloc (.cells #[.slice a1 l1 c1,.slice a2 l2 c2,.slice a3 l3 c3] 27)) none∧(u3.alloc (.cells #[.slice a1 l1 c1,.slice a2 l2 c2,.slice a3 l3 c3] 27)).heap[q2]? = some (.cells #[.slice none 0 0,.slice none 0 0,.slice none 0 0] 27)∧CRd (u3.alloc (.cells #[.slice a1 l1 c1,.slice a2 l2 c2,.slice a3 l3 c3] 27)) q g N r∧OwP (u3.alloc (.cells #[.slice a1 l1 c1,.slice a2 l2 c2,.slice a3 l3 c3] 27)) X a1 l1 c1 a2 l2 c2 a3 l3 c3 b1 b2 b3∧(u3.alloc (.cells #[.slice a1 l1 c1,.slice a2 l2 c2,.slice a3 l3 c3] 27)).heap[u3.heap.size]? = some (.cells #[.slice a1 l1 c1,.slice a2 l2 c2,.slice a3 l3 c3] 27)∧q2 < u3.heap.size):=⟨gtr L4.out.1 ga,(ga.block _ (lbk L4.out.2.1) (by simp)).trans L4.out.2.1,CRd.old L4.out.2.2.1 ga,⟨L4.out.2.2.2.1.1.old ga,L4.out.2.2.2.1.2.1.old ga,L4.out.2.2.2.1.2.2.1.old ga,L4.out.2.2.2.1.2.2.2⟩,ba,lbk L4.out.2.1⟩
   have LN:Hid ((b1++b2++b3).Nodup∧(∀ y ∈ b1++b2++b3,q2 < y)):=⟨L4.out.2.2.2.2.1,L4.out.2.2.2.2.2.1⟩;clear ga ba L4;go_upto_region 5 with fail;generalize u3.alloc (.cells #[.slice a1 l1 c1,.slice a2 l2 c2,.slice a3 l3 c3] 27)=u4 at *;generalize u3.heap.size=q5 at *;obtain ⟨⟨z0,z1⟩,h0,h3⟩:=two L5.out.2.2.1;obtain ⟨⟨x0,x1,x2⟩,-⟩:=blkProg L5.out.2.2.2.2.1;by_cases hrn:r=(N:Int)
   ·
    have HRN:Hid (r=(N:Int)):=hrn;clear hrn
    have hd:(r != (N:Int))=false:=by rw[HRN.out];simp
    have hd2:¬ r≠(N:Int):=fun h=>h HRN.out
    have hsize:=progP_size HZ.out.2 HZ.out.1 2 (by omega) (by omega) (by rw[HX.out];show 0≤r;rw[HRN.out];omega);rw[HX.out] at hsize
    have hlay:l1≤4194304:=by
     have h9:=szLayouts_len X.lays;have h8:=HLL.out.1;unfold szProg at hsize;simp only at hsize;omega
    have C3:Hid _:=implProgT X a1 l1 c1 a2 l2 c2 a3 l3 c3 u4 L5.out.2.2.2.1.rd (HR.out _ L5.out.1).2 hlay;clear hsize hlay;go_wp2_with fail;refine Calls.mono C3.out ?_;rintro e u5 ⟨rfl,hg⟩;have L6:Hid (w.grownBy u5 none∧u5.heap[q2]? = some (.cells #[.slice none 0 0,.slice none 0 0,.slice none 0 0] 27)∧OwP u5 X a1 l1 c1 a2 l2 c2 a3 l3 c3 b1 b2 b3∧u5.heap[q5]? = some (.cells #[.slice a1 l1 c1,.slice a2 l2 c2,.slice a3 l3 c3] 27)):=⟨gtr L5.out.1 hg,(hg.block _ (lbk L5.out.2.1) (by simp)).trans L5.out.2.1,⟨L5.out.2.2.2.1.1.old hg,L5.out.2.2.2.1.2.1.old hg,L5.out.2.2.2.1.2.2.1.old hg,L5.out.2.2.2.1.2.2.2⟩,(hg.block _ (lbk L5.out.2.2.2.2.1) (by simp)).trans L5.out.2.2.2.2.1⟩;clear C3 L5 hg z0 z1 h0 h3 x0 x1 x2 hd hd2;simp only[]
    cases hok:okP X with
    | false =>
     have EO:Hid (rdOk (parI zs) zs=false):=by show _=_;unfold rdOk;rw[HX.out,hok,Bool.and_false,Bool.and_false,Bool.and_false]
     have LZ:Hid (w.grownBy u5 none∧u5.heap[q2]? = some (.cells #[.slice none 0 0,.slice none 0 0,.slice none 0 0] 27)):=⟨L6.out.1,L6.out.2.1⟩;clear L6 hok;obtain ⟨⟨y0,y1,y2⟩,hfy⟩:=blkProg LZ.out.2;have f0:=hfy 0;have f1:=hfy 1;have f2:=hfy 2;obtain ⟨dz,kz⟩:=fillProg (.slice none 0 0) (.slice none 0 0) (.slice none 0 0) LZ.out.2;have FQ:Hid (_∧w.grownBy _ none):=⟨dz,grown_into LZ.out.1 kz (by have:=PE.out;omega)⟩;clear hfy dz kz LZ;go_wp2
     (try simp only[Exit.inBlock,Exit.then])
     refine bodyPost_ret (results_cell2 (P:=Tryz.prog) Tryz.results6 _ _ q2 _ _ _ _ rfl FQ.out.1 Tryz.underlying27 rfl (by kernel_rfl)) rfl ?_;unfold rdX;rw[EO.out];exact ⟨none,0,none,0,none,0,[],[],[],rfl,FQ.out.2,⟨SlG.nil _ _ _ _,SlG.nil _ _ _ _,SlG.nil _ _ _ _,fun b hb=>by simp [prog0] at hb⟩,by simp,fun y hy=>by simp at hy⟩
    | true =>
     have EO:Hid (rdOk (parI zs) zs=true):=by show _=_;unfold rdOk;rw[HX.out,hok,EL.out,EP.out];simp [HRN.out,HZ.out.1]
     clear hok;obtain ⟨⟨x0,x1,x2⟩,-⟩:=blkProg L6.out.2.2.2;obtain ⟨⟨y0,y1,y2⟩,hfy⟩:=blkProg L6.out.2.1;have f0:=hfy 0;have f1:=hfy 1;have f2:=hfy 2;obtain ⟨dz,kz⟩:=fillProg (.slice a1 l1 c1) (.slice a2 l2 c2) (.slice a3 l3 c3) L6.out.2.1;have FQ:Hid (_∧w.grownBy _ none∧OwP _ X a1 l1 c1 a2 l2 c2 a3 l3 c3 b1 b2 b3):=⟨dz,grown_into L6.out.1 kz (by have:=PE.out;omega),L6.out.2.2.1.1.kept kz (fun y hy=>by have:=LN.out.2 y (by simp [hy]);simp;omega),L6.out.2.2.1.2.1.kept kz (fun y hy=>by have:=LN.out.2 y (by simp [hy]);simp;omega),L6.out.2.2.1.2.2.1.kept kz (fun y hy=>by have:=LN.out.2 y (by simp [hy]);simp;omega),L6.out.2.2.1.2.2.2⟩;clear hfy dz kz L6;go_wp2
     (try simp only[Exit.inBlock,Exit.then])
     refine bodyPost_ret (results_cell2 (P:=Tryz.prog) Tryz.results6 _ _ q2 _ _ _ _ rfl FQ.out.1 Tryz.underlying27 rfl (by kernel_rfl)) rfl ?_
     have hx:rdX (parI zs) zs=X:=by unfold rdX;rw[if_pos EO.out,HX.out]
     rw[EO.out,hx];unfold RdA;rw[HLL.out.1,HLL.out.2.1,HLL.out.2.2];exact ⟨a1,c1,a2,c2,a3,c3,b1,b2,b3,rfl,FQ.out.2.1,FQ.out.2.2,LN.out.1,fun y hy=>by have:=LN.out.2 y hy;have:=PE.out;omega⟩
   ·
    have EO:Hid (rdOk (parI zs) zs=false):=by show _=_;unfold rdOk;rw[HX.out,show decide (r=(zs.length:Int))=false by rw[HZ.out.1];simpa using hrn];simp
    have LZ:Hid (w.grownBy u4 none∧u4.heap[q2]? = some (.cells #[.slice none 0 0,.slice none 0 0,.slice none 0 0] 27)):=⟨L5.out.1,L5.out.2.1⟩
    have hd:(r != (N:Int))=true:=by simpa using hrn
    clear L5 x0 x1 x2;obtain ⟨⟨y0,y1,y2⟩,hfy⟩:=blkProg LZ.out.2;have f0:=hfy 0;have f1:=hfy 1;have f2:=hfy 2;obtain ⟨dz,kz⟩:=fillProg (.slice none 0 0) (.slice none 0 0) (.slice none 0 0) LZ.out.2;have FQ:Hid (_∧w.grownBy _ none):=⟨dz,grown_into LZ.out.1 kz (by have:=PE.out;omega)⟩;clear hfy dz kz LZ;go_wp2
    (try simp only[Exit.inBlock,Exit.then])
    refine bodyPost_ret (results_cell2 (P:=Tryz.prog) Tryz.results6 _ _ q2 _ _ _ _ rfl FQ.out.1 Tryz.underlying27 rfl (by kernel_rfl)) rfl ?_;unfold rdX;rw[EO.out];exact ⟨none,0,none,0,none,0,[],[],[],rfl,FQ.out.2,⟨SlG.nil _ _ _ _,SlG.nil _ _ _ _,SlG.nil _ _ _ _,fun b hb=>by simp [prog0] at hb⟩,by simp,fun y hy=>by simp at hy⟩
end Go.Proofs.YtnmlbeefjjohfaaGreatDoor.By
