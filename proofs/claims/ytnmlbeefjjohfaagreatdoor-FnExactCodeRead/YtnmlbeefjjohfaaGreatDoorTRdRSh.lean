/-
  No statement is proved here.
-/
import Derived.Test.YtnmlbeefjjohfaaGreatDoorTRdTSh
namespace Go.Proofs.YtnmlbeefjjohfaaGreatDoor.By
set_option maxRecDepth 100000
set_option maxHeartbeats 16000000
open Go.RowKit
set_option linter.unusedVariables false
set_option linter.unusedSimpArgs false
theorem Tn.freshR {a w u:World} {bs:List Nat} {row:Option Nat} (h:a.grownBy w row) (k:Tn w u bs) (hb:∀ x ∈ bs,a.heap.size≤x):a.grownBy u row :=
 ⟨k.os.trans h.os,k.tape.trans h.tape,k.output.trans h.output,Nat.le_trans h.size k.size,fun i hi hr=>(k.block i (Nat.lt_of_lt_of_le hi h.size) (fun hx=>by have:=hb i hx;omega)).trans (h.block i hi hr)⟩
theorem rI_bounds {zs:List Int} (hz:Byt zs) {d r:Nat} {p:Int} {y:Int × Int × F × Int × Nat} (h:rI zs d r p=some y):0≤y.2.2.2.1∧y.2.2.2.1≤zs.length:=by
 rw[rI_is] at h
 cases hx:rdT zs d p with
 | none=>rw[hx] at h;cases h
 | some x =>
  rw[hx] at h;simp only[okRd] at h
  split at h
  ·
   simp only[Option.some.injEq] at h;subst h;exact rdT_bounds hz d p x hx
  ·
   cases h
def appI (P:F) (o:Option (F × Int × Nat)):Option (F × Int × Nat):=o.map (fun y=>(P.app y.1,y.2))
theorem appI_nil (o:Option (F × Int × Nat)):appI .nil o=o:=by cases o <;> rfl
theorem appI_some {g:Nat→Int→Option (Int × Int × F × Int × Nat)} {P:F} {c r:Nat} {p:Int} {x:Int × Int × F × Int × Nat} (h:g r p=some x):appI P (rIL g (c+1) r p)=appI (P.app (.cons x.1 x.2.1 x.2.2.1 .nil)) (rIL g c x.2.2.2.2 x.2.2.2.1):=by
 rw[rIL,h];simp only[]
 cases rIL g c x.2.2.2.2 x.2.2.2.1 with
 | none=>rfl
 | some y=>simp only[appI,Option.map_some,F.app_assoc];rfl
theorem appI_none {g:Nat→Int→Option (Int × Int × F × Int × Nat)} {P:F} {c r:Nat} {p:Int} (h:g r p=none):appI P (rIL g (c+1) r p)=none:=by rw[rIL,h];rfl
theorem rI_room {zs:List Int} {d:Nat} {p:Int}:rI zs d 0 p=none:=by cases d <;> rfl
theorem rI_no {zs:List Int} {d r:Nat} {p:Int} (h:∀ x,hd zs p=some x→fitsB x.1 x.2.1 x.2.2.1=false):rI zs (d+1) r p=none:=by
 rw[rI]
 split
 ·
  rfl
 ·
  cases hx:hd zs p with
  | none=>rfl
  | some x=>simp only[];rw[if_neg (by rw[h x hx];simp)]
theorem rI_out {zs:List Int} {d r:Nat} {p:Int} (h:p < 0∨(zs.length:Int)≤p):rI zs d r p=none:=by
 cases d with
 | zero=>rfl
 | succ d=>exact rI_no (fun x hx=>by unfold hd at hx;rw[if_pos h] at hx;cases hx)
theorem rI_head {zs:List Int} {d r:Nat} {p:Int} {k n x:Int} {c:Nat} (hr:r≠0) (hh:hd zs p=some (k,n,c,x)) (hf:fitsB k n c=true):rI zs (d+1) r p=match rIL (rI zs d) c (r - 1) x with
  | none=>none
  | some y=>some (k,n,y.1,y.2.1,y.2.2):=by
 rw[rI,if_neg hr,hh];simp only[];rw[if_pos hf]
 cases rIL (rI zs d) c (r - 1) x <;> rfl
def RdIT (w:World) (q:Nat) (a:Option Addr) (N cap:Nat) (R:Option (Int × Int × F × Int × Nat)) (e:Ending) (u:World):Prop :=
 ∃ (k n:Int) (f:F) (a':Option Addr) (l' c':Nat) (bs:List Nat) (x rm:Int) (ok:Bool),e = .returned (.tuple #[.agg #[.int .i64 k,.int .i64 n,.slice a' l' c'],.bool ok])∧w.grownBy u (some q)∧Rdr u q a N cap x rm∧New w u 46 a' l' c' f bs ∧
  (ok=true→∃ m:Nat,rm=(m:Int)∧m≤60∧R=some (k,n,f,x,m))∧(ok=false→R=none)
theorem readT (q:Nat) (a:Option Addr) (N cap:Nat) (zs:List Int) (hz:Byt zs) (hN:N≤1048576) (hq:0 < N→∀ b off,a=some ⟨b,off,none⟩→b≠q) (d:Nat):∀ (r:Nat) (p:Int) (w:World),d≤10→r≤60→Rdr w q a N cap p r→(∀ u,w.grownBy u (some q)→Reads u a N zs)→p≤9223372036854775807 →
  Calls Tryz.prog 95 #[.pointer (some ⟨q,0,none⟩),.int .i64 d] w fun e u=>RdIT w q a N cap (rI zs d r p) e u:=by
 induction d with
 | zero =>
  intro r p w _ _ hb h hp;have hl:=(h w (grf _ _)).1;have hqs:=lbk hb;have g0:w.grownBy (w.alloc (.cells #[.int .i64 0,.int .i64 0,.slice none 0 0] 46)).drew none:=grown_drew (gal _ _ _);have gd:(w.alloc (.cells #[.int .i64 0,.int .i64 0,.slice none 0 0] 46)).grownBy (w.alloc (.cells #[.int .i64 0,.int .i64 0,.slice none 0 0] 46)).drew none:=grown_drew (grf _ none);have L1:Hid (w.grownBy (w.alloc (.cells #[.int .i64 0,.int .i64 0,.slice none 0 0] 46)).drew none∧Rdr (w.alloc (.cells #[.int .i64 0,.int .i64 0,.slice none 0 0] 46)).drew q a N cap p r∧(w.alloc (.cells #[.int .i64 0,.int .i64 0,.slice none 0 0] 46)).drew.heap[w.heap.size]? = some (.cells #[.int .i64 0,.int .i64 0,.slice none 0 0] 46)):=⟨g0,(g0.block _ hqs (by simp)).trans hb,(gd.block _ (by simp) (by simp)).trans (hnw w _)⟩;clear hb h g0 gd;go_enter Tryz.func95,Tryz.ntmps95;go_wp2_with fail;refine wp_region_held_drew (S:=(fun u0=>Tri q 0 (.slice a N cap) (.int .i64 p) (.int .i64 r) u0)) (by kernel_rfl) (three L1.out.2.1).1 (fun hH=>?_)
  generalize (World.drew _)=u0 at *;generalize e4:w.heap.size=q4 at *;simp only[sA9,lB,lC,Nat.reduceAdd,Array.replicate,List.replicate];refine tk 0 ?_;refine tk 1 ?_;refine tk 2 ?_;refine tks 3 ?_;refine tks 4 ?_;refine tks 5 ?_;refine tks 6 ?_;refine tks 7 ?_;refine tk 8 ?_;refine tk 9 ?_;refine tks 10 ?_;refine tks 11 ?_;refine tks 12 ?_;refine tks 13 ?_;refine tks 14 ?_;refine tk 15 ?_;refine tk 16 ?_;refine tks 17 ?_;refine tks 18 ?_;refine tks 19 ?_;refine tks 20 ?_;refine tks 21 ?_;refine tks 22 ?_;refine tks 23 ?_;refine tks 24 ?_;refine tks 25 ?_;refine tks 26 ?_;refine tk 27 ?_;refine wpAnyH_done (by kernel_rfl) ?_ _;clear hH;obtain ⟨⟨z0,z1,z2⟩,h0,h3,h4⟩:=three L1.out.2.1;obtain ⟨⟨y0,y1,y2⟩,f0,f1,f2⟩:=three L1.out.2.2;obtain ⟨d1,k1⟩:=fill3 (.int .i64 0) (.int .i64 0) (.slice none 0 0) L1.out.2.2;have FQ:Hid (_∧w.grownBy _ (some q)∧Rdr _ q a N cap p r):=⟨d1,grown_intoR (wide_none L1.out.1 (some q)) k1 (by omega),(k1.block _ (lbk L1.out.2.1) (by simp;omega)).trans L1.out.2.1⟩
  clear d1 k1 L1 z0 z1 z2 h0 h3 h4;go_wp2
  (try simp only[Exit.inBlock,Exit.then])
  refine bodyPost_ret (results_cell2 (P:=Tryz.prog) Tryz.results95 _ _ q4 _ _ _ _ rfl FQ.out.1 Tryz.underlying46 rfl (by kernel_rfl)) rfl ?_;exact ⟨0,0,.nil,none,0,0,[],_,_,false,rfl,FQ.out.2.1,FQ.out.2.2,New.nil _ _ _,(fun h=>by cases h),fun _=>rfl⟩
 | succ d ih =>
  intro r p w hd10 hr60 hb h hp;have IH:Hid _:=ih;have HR:Hid _:=h;have hl:=(h w (grf _ _)).1;have hqs:=lbk hb;have g0:w.grownBy (w.alloc (.cells #[.int .i64 0,.int .i64 0,.slice none 0 0] 46)).drew none:=grown_drew (gal _ _ _);have gd:(w.alloc (.cells #[.int .i64 0,.int .i64 0,.slice none 0 0] 46)).grownBy (w.alloc (.cells #[.int .i64 0,.int .i64 0,.slice none 0 0] 46)).drew none:=grown_drew (grf _ none);have L1:Hid (w.grownBy (w.alloc (.cells #[.int .i64 0,.int .i64 0,.slice none 0 0] 46)).drew none∧Rdr (w.alloc (.cells #[.int .i64 0,.int .i64 0,.slice none 0 0] 46)).drew q a N cap p r∧(w.alloc (.cells #[.int .i64 0,.int .i64 0,.slice none 0 0] 46)).drew.heap[w.heap.size]? = some (.cells #[.int .i64 0,.int .i64 0,.slice none 0 0] 46)):=⟨g0,(g0.block _ hqs (by simp)).trans hb,(gd.block _ (by simp) (by simp)).trans (hnw w _)⟩;clear ih h hb g0 gd
  have gd:((d:Int)+1 == 0)=false:=by simp;omega
  by_cases hr0:r=0
  ·
   have hr0':((r:Int)=0):=by omega
   go_enter Tryz.func95,Tryz.ntmps95;go_wp2_with fail;refine wp_region_held_drew (S:=(fun u0=>Tri q 0 (.slice a N cap) (.int .i64 p) (.int .i64 r) u0)) (by kernel_rfl) (three L1.out.2.1).1 (fun hH=>?_);generalize (World.drew _)=u0 at *;generalize e4:w.heap.size=q4 at *;simp only[sA9,lB,lC,Nat.reduceAdd,Array.replicate,List.replicate];refine tk 0 ?_;refine tk 1 ?_;refine tk 2 ?_;refine tk 3 ?_;refine tk 4 ?_;refine tk 5 ?_;refine tk 6 ?_;refine tk 7 ?_;refine tk 8 ?_;refine tk 9 ?_;refine tks 10 ?_;refine tks 11 ?_;refine tks 12 ?_;refine tks 13 ?_;refine tks 14 ?_;refine tk 15 ?_;refine tk 16 ?_;refine tks 17 ?_;refine tks 18 ?_;refine tks 19 ?_;refine tks 20 ?_;refine tks 21 ?_;refine tks 22 ?_;refine tks 23 ?_;refine tks 24 ?_;refine tks 25 ?_;refine tks 26 ?_;refine tk 27 ?_;refine wpAnyH_done (by kernel_rfl) ?_ _;clear hH;obtain ⟨⟨z0,z1,z2⟩,h0,h3,h4⟩:=three L1.out.2.1;obtain ⟨⟨y0,y1,y2⟩,f0,f1,f2⟩:=three L1.out.2.2
   obtain ⟨d1,k1⟩:=fill3 (.int .i64 0) (.int .i64 0) (.slice none 0 0) L1.out.2.2;have FQ:Hid (_∧w.grownBy _ (some q)∧Rdr _ q a N cap p r):=⟨d1,grown_intoR (wide_none L1.out.1 (some q)) k1 (by omega),(k1.block _ (lbk L1.out.2.1) (by simp;omega)).trans L1.out.2.1⟩;clear d1 k1 L1 z0 z1 z2 h0 h3 h4;go_wp2
   (try simp only[Exit.inBlock,Exit.then])
   refine bodyPost_ret (results_cell2 (P:=Tryz.prog) Tryz.results95 _ _ q4 _ _ _ _ rfl FQ.out.1 Tryz.underlying46 rfl (by kernel_rfl)) rfl ?_;exact ⟨0,0,.nil,none,0,0,[],_,_,false,rfl,FQ.out.2.1,FQ.out.2.2,New.nil _ _ _,(fun h=>by cases h),fun _=>(by rw[hr0];exact rI_room)⟩
  have gr:((r:Int) == 0)=false:=by simp;omega
  by_cases h1:p < 0
  ·
   go_enter Tryz.func95,Tryz.ntmps95;go_wp2_with fail;refine wp_region_held_drew (S:=(fun u0=>Tri q 0 (.slice a N cap) (.int .i64 p) (.int .i64 r) u0)) (by kernel_rfl) (three L1.out.2.1).1 (fun hH=>?_);generalize (World.drew _)=u0 at *;generalize e4:w.heap.size=q4 at *;simp only[sA9,lB,lC,Nat.reduceAdd,Array.replicate,List.replicate];refine tk 0 ?_;refine tk 1 ?_
   (try simp only[gd])
   refine tk 2 ?_;refine tk 3 ?_;refine tk 4 ?_;refine tk 5 ?_;refine tk 6 ?_;refine tk 7 ?_
   (try simp only[gr])
   refine tk 8 ?_;refine tk 9 ?_;refine tk 10 ?_;refine tk 11 ?_;refine tk 12 ?_;refine tk 13 ?_;refine tk 14 ?_;refine tk 15 ?_;refine tk 16 ?_;refine tks 17 ?_;refine tks 18 ?_;refine tks 19 ?_;refine tks 20 ?_;refine tks 21 ?_;refine tks 22 ?_;refine tks 23 ?_;refine tks 24 ?_;refine tks 25 ?_;refine tks 26 ?_;refine tk 27 ?_;refine wpAnyH_done (by kernel_rfl) ?_ _;clear hH;obtain ⟨⟨z0,z1,z2⟩,h0,h3,h4⟩:=three L1.out.2.1;obtain ⟨⟨y0,y1,y2⟩,f0,f1,f2⟩:=three L1.out.2.2;obtain ⟨d1,k1⟩:=fill3 (.int .i64 0) (.int .i64 0) (.slice none 0 0) L1.out.2.2;have FQ:Hid (_∧w.grownBy _ (some q)∧Rdr _ q a N cap p r):=⟨d1,grown_intoR (wide_none L1.out.1 (some q)) k1 (by omega),(k1.block _ (lbk L1.out.2.1) (by simp;omega)).trans L1.out.2.1⟩;clear d1 k1 L1 z0 z1 z2 h0 h3 h4;go_wp2
   (try simp only[Exit.inBlock,Exit.then])
   refine bodyPost_ret (results_cell2 (P:=Tryz.prog) Tryz.results95 _ _ q4 _ _ _ _ rfl FQ.out.1 Tryz.underlying46 rfl (by kernel_rfl)) rfl ?_;exact ⟨0,0,.nil,none,0,0,[],_,_,false,rfl,FQ.out.2.1,FQ.out.2.2,New.nil _ _ _,(fun h=>by cases h),fun _=>rI_out (.inl h1)⟩
  have gp:decide (p < 0)=false:=by simp;omega
  by_cases h2:(N:Int)≤p
  ·
   go_enter Tryz.func95,Tryz.ntmps95;go_wp2_with fail;refine wp_region_held_drew (S:=(fun u0=>Tri q 0 (.slice a N cap) (.int .i64 p) (.int .i64 r) u0)) (by kernel_rfl) (three L1.out.2.1).1 (fun hH=>?_);generalize (World.drew _)=u0 at *;generalize e4:w.heap.size=q4 at *;simp only[sA9,lB,lC,Nat.reduceAdd,Array.replicate,List.replicate];refine tk 0 ?_;refine tk 1 ?_
   (try simp only[gd])
   refine tk 2 ?_;refine tk 3 ?_;refine tk 4 ?_;refine tk 5 ?_;refine tk 6 ?_;refine tk 7 ?_
   (try simp only[gr])
   refine tk 8 ?_;refine tk 9 ?_;refine tk 10 ?_;refine tk 11 ?_;refine tk 12 ?_;refine tk 13 ?_;refine tk 14 ?_
   (try simp only[gp])
   refine tk 15 ?_;refine tk 16 ?_;refine tk 17 ?_;refine tk 18 ?_;refine tk 19 ?_;refine tk 20 ?_;refine tk 21 ?_;refine tk 22 ?_;refine tk 23 ?_;refine tk 24 ?_;refine tk 25 ?_;refine tk 26 ?_;refine tk 27 ?_;refine wpAnyH_done (by kernel_rfl) ?_ _;clear hH;obtain ⟨⟨z0,z1,z2⟩,h0,h3,h4⟩:=three L1.out.2.1;obtain ⟨⟨y0,y1,y2⟩,f0,f1,f2⟩:=three L1.out.2.2;obtain ⟨d1,k1⟩:=fill3 (.int .i64 0) (.int .i64 0) (.slice none 0 0) L1.out.2.2;have FQ:Hid (_∧w.grownBy _ (some q)∧Rdr _ q a N cap p r):=⟨d1,grown_intoR (wide_none L1.out.1 (some q)) k1 (by omega),(k1.block _ (lbk L1.out.2.1) (by simp;omega)).trans L1.out.2.1⟩;clear d1 k1 L1 z0 z1 z2 h0 h3 h4;go_wp2
   (try simp only[Exit.inBlock,Exit.then])
   refine bodyPost_ret (results_cell2 (P:=Tryz.prog) Tryz.results95 _ _ q4 _ _ _ _ rfl FQ.out.1 Tryz.underlying46 rfl (by kernel_rfl)) rfl ?_;exact ⟨0,0,.nil,none,0,0,[],_,_,false,rfl,FQ.out.2.1,FQ.out.2.2,New.nil _ _ _,(fun h=>by cases h),fun _=>rI_out (.inr (by omega))⟩
  have gN:decide ((N:Int)≤p)=false:=by simp;omega
  go_enter Tryz.func95,Tryz.ntmps95;go_wp2_with fail;refine wp_region_held_drew (S:=(fun u0=>Tri q 0 (.slice a N cap) (.int .i64 p) (.int .i64 r) u0)) (by kernel_rfl) (three L1.out.2.1).1 (fun hH=>?_);generalize (World.drew _)=u0 at *;generalize e4:w.heap.size=q4 at *;simp only[sA9,lB,lC,Nat.reduceAdd,Array.replicate,List.replicate];refine tk 0 ?_;refine tk 1 ?_
  (try simp only[gd])
  refine tk 2 ?_;refine tk 3 ?_;refine tk 4 ?_;refine tk 5 ?_;refine tk 6 ?_;refine tk 7 ?_
  (try simp only[gr])
  refine tk 8 ?_;refine tk 9 ?_;refine tk 10 ?_;refine tk 11 ?_;refine tk 12 ?_;refine tk 13 ?_;refine tk 14 ?_
  (try simp only[gp])
  refine tk 15 ?_;refine tk 16 ?_;refine tk 17 ?_;refine tk 18 ?_;refine tk 19 ?_;refine tk 20 ?_;refine tk 21 ?_;refine tk 22 ?_;refine tk 23 ?_;refine tk 24 ?_;refine tk 25 ?_;refine tk 26 ?_;refine tk 27 ?_;refine wpAnyH_done (by kernel_rfl) ?_ _;clear hH
  (try simp only[gN])
  obtain ⟨pn,rfl⟩:∃ pn:Nat,p=(pn:Int):=⟨p.toNat,by omega⟩
  obtain ⟨b,off,ha⟩:∃ b off,a=some (⟨b,off,none⟩:Addr):=by
   rcases (HR.out w (grf _ _)).2 with h0|⟨b,off,hab,-⟩
   ·
    omega
   ·
    exact ⟨b,off,hab⟩
  have hbq:=hq (by omega) b off ha;subst ha;obtain ⟨⟨z0,z1,z2⟩,h0,h3,h4⟩:=three L1.out.2.1;have ks:=gsc u0 q 2 (.int .i64 ((r:Int) - 1));have L2:Hid (w.grownBy (u0.setCell ⟨q,2,none⟩ (.int .i64 ((r:Int) - 1))) (some q)∧Rdr (u0.setCell ⟨q,2,none⟩ (.int .i64 ((r:Int) - 1))) q (some ⟨b,off,none⟩) N cap pn ((r:Int) - 1)∧(u0.setCell ⟨q,2,none⟩ (.int .i64 ((r:Int) - 1))).heap[q4]? = some (.cells #[.int .i64 0,.int .i64 0,.slice none 0 0] 46)):=⟨gtr (wide_none L1.out.1 _) ks,hsm u0 q 2 _ _ _ L1.out.2.1,(ks.block _ (lbk L1.out.2.2) (by simp;omega)).trans L1.out.2.2⟩;have CT:Hid _:=readTopT q b off N cap zs hz hN pn (by omega) ((r:Int) - 1) _ L2.out.2.1 (HR.out _ L2.out.1) hbq;clear ks L1;go_wp2_with fail;refine Calls.mono CT.out ?_;rintro e u ⟨k,n,cc,x,ok,he,hg,hb,ht,hf⟩;subst he;have h4s:=lbk L2.out.2.2;have hus:=hg.size;have L3:Hid (w.grownBy u (some q)∧Rdr u q (some ⟨b,off,none⟩) N cap x ((r:Int) - 1)∧u.heap[q4]? = some (.cells #[.int .i64 0,.int .i64 0,.slice none 0 0] 46)):=⟨gtr L2.out.1 hg,hb,(hg.block _ h4s (by simp;omega)).trans L2.out.2.2⟩
  have PQ:Hid (w.heap.size=q4∧q < q4∧q4 < u.heap.size):=⟨e4,by omega,lbk L3.out.2.2⟩;clear CT L2 hg hb z0 z1 z2 h0 h3 h4 hqs e4 h4s hus;have ga:=gal u (.cells #[.int .i64 k,.int .i64 n,.slice none 0 0] 46) none;have L4:Hid (w.grownBy (u.alloc (.cells #[.int .i64 k,.int .i64 n,.slice none 0 0] 46)) (some q)∧Rdr (u.alloc (.cells #[.int .i64 k,.int .i64 n,.slice none 0 0] 46)) q (some ⟨b,off,none⟩) N cap x ((r:Int) - 1)∧(u.alloc (.cells #[.int .i64 k,.int .i64 n,.slice none 0 0] 46)).heap[q4]? = some (.cells #[.int .i64 0,.int .i64 0,.slice none 0 0] 46)∧(u.alloc (.cells #[.int .i64 k,.int .i64 n,.slice none 0 0] 46)).heap[u.heap.size]? = some (.cells #[.int .i64 k,.int .i64 n,.slice none 0 0] 46)):=⟨gtr L3.out.1 (wide_none ga _),(ga.block _ (lbk L3.out.2.1) (by simp)).trans L3.out.2.1,(ga.block _ (lbk L3.out.2.2) (by simp)).trans L3.out.2.2,hnw u _⟩;clear ga L3;simp only[]
  cases ok with
  | false =>
   have EN:Hid (rI zs (d+1) r (pn:Int)=none):=rI_no (hf rfl);obtain ⟨⟨y0,y1,y2⟩,f0,f1,f2⟩:=three L4.out.2.2.1;obtain ⟨d1,k1⟩:=fill3 (.int .i64 0) (.int .i64 0) (.slice none 0 0) L4.out.2.2.1;have FQ:Hid (_∧w.grownBy _ (some q)∧Rdr _ q (some ⟨b,off,none⟩) N cap x ((r:Int) - 1)):=⟨d1,grown_intoR L4.out.1 k1 (by have:=PQ.out;omega),(k1.block _ (lbk L4.out.2.1) (by have:=PQ.out;simp;omega)).trans L4.out.2.1⟩;clear d1 k1 L4 HR IH ht hf;go_wp2
   (try simp only[Exit.inBlock,Exit.then])
   refine bodyPost_ret (results_cell2 (P:=Tryz.prog) Tryz.results95 _ _ q4 _ _ _ _ rfl FQ.out.1 Tryz.underlying46 rfl (by kernel_rfl)) rfl ?_;exact ⟨0,0,.nil,none,0,0,[],_,_,false,rfl,FQ.out.2.1,FQ.out.2.2,New.nil _ _ _,(fun h=>by cases h),fun _=>EN.out⟩
  | true =>
   obtain ⟨c,rfl,hhd,hfit⟩:=ht rfl;clear ht hf;generalize e6:u.heap.size=q6 at *
   have hbn:x≤N∧0≤x∧c≤3:=by
    have hh:=hhd;unfold hd at hh;rw[if_neg (by omega)] at hh;have:=hdN_bounds hz (by omega) (by omega) hh;simp only[] at this;omega
   obtain ⟨hx1,hx0,hc3⟩:=hbn;have ER:Hid (rI zs (d+1) r (pn:Int)=match rIL (rI zs d) c (r - 1) x with|none=>none|some y=>some (k,n,y.1,y.2.1,y.2.2)):=rI_head hr0 hhd hfit;generalize hL:rIL (rI zs d) c (r - 1) x=LR at *
   have HL:Hid (LR=appI .nil (rIL (rI zs d) c (r - 1) x)):=by show _=_;rw[appI_nil,hL]
   have hrc:((r:Int) - 1)=((r - 1:Nat):Int):=by omega
   rw[hrc] at L4;generalize hr1:r - 1=r1 at *
   have hr1':r1≤60:=by omega
   clear hL hhd hfit hrc;obtain ⟨i0,hi,hz0,hz1,hz2⟩:=info_parts infoT;obtain ⟨⟨y0,y1,y2⟩,f0,f1,f2⟩:=three L4.out.2.2.2;go_wp2
   go_loopw [57] (fun i wr=>∃ (j:Nat) (P:F) (x:Int) (rr:Nat) (av:Option Addr) (cv:Nat) (bs:List Nat),j≤c∧i = .int .i64 j∧0≤x∧x≤N∧rr≤60∧P.len=j∧Hid (LR=appI P (rIL (rI zs d) (c - j) rr x))∧Hid (w.grownBy wr (some q)∧Rdr wr q (some ⟨b,off,none⟩) N cap x rr∧wr.heap[q4]? = some (Obj.cells #[.int .i64 0,.int .i64 0,.slice none 0 0] 46)∧wr.heap[q6]? = some (Obj.cells #[.int .i64 k,.int .i64 n,.slice av j cv] 46)∧SlO wr 46 av j cv P bs∧bs.Nodup∧(∀ y ∈ bs,q6 < y)∧(cv=0→av=none))) (fun i _=>c - (intOf i).toNat)
   case atStart=>exact ⟨0,.nil,x,r1,none,0,[],Nat.zero_le _,rfl,hx0,hx1,hr1',rfl,HL,L4.out.1,L4.out.2.1,L4.out.2.2.1,L4.out.2.2.2,⟨rfl,by omega,by omega,.inl ⟨rfl,rfl⟩⟩,List.nodup_nil,fun y hy=>by simp at hy,fun _=>rfl⟩
   case round =>
    clear HL L4 y0 y1 y2 f0 f1 f2;obtain ⟨j,P,x,rr,av,cv,bs,hj,rfl,hxx0,hxx1,hrr,hPl,HL,LI⟩:=hrel;by_cases hlt:j < c
    ·
     have hlt':(j:Int) < (c:Int):=by omega
     obtain ⟨r',hr'⟩:∃ r',c - j=r' + 1:=⟨c - j - 1,by omega⟩;have CC:Hid _:=IH.out rr x wr (by omega) hrr LI.out.2.1 (fun u hu=>HR.out u (gtr LI.out.1 hu)) (by omega);go_wp2_with fail;refine Calls.mono CC.out ?_;rintro e u ⟨rk,rn,rd,a2,l2,c2,bd,x',rm,ok,he,hg,hb,hnew,hok,hno⟩;subst he;obtain ⟨g1,br,b4,b6,acc,nd,gt,na⟩:=LI.out;have hl6:=lbk b6;have LV:Hid (w.grownBy u (some q)∧Rdr u q (some ⟨b,off,none⟩) N cap x' rm∧u.heap[q4]? = some (Obj.cells #[.int .i64 0,.int .i64 0,.slice none 0 0] 46)∧u.heap[q6]? = some (Obj.cells #[.int .i64 k,.int .i64 n,.slice av j cv] 46)∧SlO u 46 av j cv P bs∧SlO u 46 a2 l2 c2 rd bd∧(∀ y ∈ bd,q6 < y)∧(∀ y ∈ bs,y ∉ bd)∧bd.Nodup∧bs.Nodup∧(∀ y ∈ bs,q6 < y)∧(cv=0→av=none)):=⟨gtr g1 hg,hb,(hg.block _ (lbk b4) (by have:=PQ.out;simp;omega)).trans b4,(hg.block _ hl6 (by have:=PQ.out;simp;omega)).trans b6,acc.kept hg (fun y hy=>by have:=gt y hy;have:=PQ.out;simp;omega),hnew.1,fun y hy=>Nat.lt_of_lt_of_le hl6 (hnew.2.2 y hy),fun y hy hy2=>by have:=acc.lt y hy;have:=hnew.2.2 y hy2;omega,hnew.2.1,nd,gt,na⟩
     have lt6:q6 < u.heap.size:=lbk LV.out.2.2.2.1;have lt4:q4 < u.heap.size:=lbk LV.out.2.2.1;have ltq:q < u.heap.size:=lbk LV.out.2.1
     have n46:q4≠q6:=by have:=PQ.out;omega
     clear hg hnew CC g1 br b4 b6 acc hl6 LI nd gt na IH hb
     cases ok with
     | false =>
      have hLR:LR=none:=by rw[HL.out,hr'];exact appI_none (hno rfl)
      have EN:Hid (rI zs (d+1) r (pn:Int)=none):=by show _=_;rw[ER.out,hLR]
      obtain ⟨g1,br,b4,-⟩:=LV.out;obtain ⟨⟨z0,z1,z2⟩,h0,h3,h4⟩:=three b4;obtain ⟨d1,k1⟩:=fill3 (.int .i64 0) (.int .i64 0) (.slice none 0 0) b4;have ga:=gal (((u.setCell ⟨q4,0,none⟩ (.int .i64 0)).setCell ⟨q4,1,none⟩ (.int .i64 0)).setCell ⟨q4,2,none⟩ (.slice none 0 0)) (.cells #[.int .i64 rk,.int .i64 rn,.slice a2 l2 c2] 46) none;have k2:=grown_intoR g1 k1 (by have:=PQ.out;omega);have k3:=(k1.block _ ltq (by have:=PQ.out;simp;omega)).trans br;have FQ:Hid (_∧w.grownBy _ (some q)∧Rdr _ q (some ⟨b,off,none⟩) N cap x' rm):=⟨(ga.block _ (lbk d1) (by simp)).trans d1,gtr k2 (wide_none ga _),(ga.block _ (lbk k3) (by simp)).trans k3⟩;clear ga d1 k1 k2 k3 hLR HL ER HR LV hi hz0 hz1 hz2 g1 br b4 hok hno;simp only[];go_wp2
      (try simp only[Exit.inBlock,Exit.then])
      refine bodyPost_ret (results_cell2 (P:=Tryz.prog) Tryz.results95 _ _ q4 _ _ _ _ rfl FQ.out.1 Tryz.underlying46 rfl (by kernel_rfl)) rfl ?_;exact ⟨0,0,.nil,none,0,0,[],_,_,false,rfl,FQ.out.2.1,FQ.out.2.2,New.nil _ _ _,(fun h=>by cases h),fun _=>EN.out⟩
     | true =>
      obtain ⟨m,rfl,hm,hT⟩:=hok rfl;have hyb:=rI_bounds hz hT
      have HL2:Hid (LR=appI (P.app (.cons rk rn rd .nil)) (rIL (rI zs d) r' m x')):=by show _=_;rw[HL.out,hr'];exact appI_some hT
      simp only[] at hyb;obtain ⟨hy0,hy1⟩:=hyb;have gA:=gal u (.cells #[.int .i64 rk,.int .i64 rn,.slice a2 l2 c2] 46) none;have gB:=gal (u.alloc (.cells #[.int .i64 rk,.int .i64 rn,.slice a2 l2 c2] 46)) (.cells #[.int .i64 rk,.int .i64 rn,.slice a2 l2 c2] 46) none;have gAB:=gtr gA gB;have bB:=three (hnw (u.alloc (.cells #[.int .i64 rk,.int .i64 rn,.slice a2 l2 c2] 46)) (.cells #[.int .i64 rk,.int .i64 rn,.slice a2 l2 c2] 46))
      have esz:(u.alloc (.cells #[.int .i64 rk,.int .i64 rn,.slice a2 l2 c2] 46)).heap.size=u.heap.size+1:=by simp
      rw[esz] at bB;obtain ⟨g1,br,b4,b6,acc,kid,gtk,dis,ndk,nd,gt,na⟩:=LV.out;have AC:Hid (SlO ((u.alloc (.cells #[.int .i64 rk,.int .i64 rn,.slice a2 l2 c2] 46)).alloc (.cells #[.int .i64 rk,.int .i64 rn,.slice a2 l2 c2] 46)) 46 av j cv P bs∧SlO ((u.alloc (.cells #[.int .i64 rk,.int .i64 rn,.slice a2 l2 c2] 46)).alloc (.cells #[.int .i64 rk,.int .i64 rn,.slice a2 l2 c2] 46)) 46 a2 l2 c2 rd bd∧bs.Nodup∧bd.Nodup∧(∀ y ∈ bs,y ∉ bd)∧(cv=0→av=none)):=⟨acc.old gAB,kid.old gAB,nd,ndk,dis,na⟩;have NW:Hid _:=news3 bB.1.1 bB.1.2.1 bB.1.2.2
      have FB:Hid (∀ u3,Tn ((u.alloc (.cells #[.int .i64 rk,.int .i64 rn,.slice a2 l2 c2] 46)).alloc (.cells #[.int .i64 rk,.int .i64 rn,.slice a2 l2 c2] 46)) u3 bs→w.grownBy u3 (some q)∧Rdr u3 q (some ⟨b,off,none⟩) N cap x' m∧u3.heap[q4]? = some (Obj.cells #[.int .i64 0,.int .i64 0,.slice none 0 0] 46)∧u3.heap[q6]? = some (Obj.cells #[.int .i64 k,.int .i64 n,.slice av j cv] 46)):=by
       intro u3 ht;have q1:=(gAB.block _ lt4 (by simp)).trans b4;have q2:=(gAB.block _ lt6 (by simp)).trans b6;have q3:=(gAB.block _ ltq (by simp)).trans br;exact ⟨Tn.freshR (gtr g1 (wide_none gAB _)) ht (fun y hy=>by have:=gt y hy;have:=PQ.out;omega),(ht.block _ (lbk q3) (fun hy=>by have:=gt _ hy;have:=PQ.out;omega)).trans q3,(ht.block _ (lbk q1) (fun hy=>by have:=gt _ hy;have:=PQ.out;omega)).trans q1,(ht.block _ (lbk q2) (fun hy=>by have:=gt _ hy;omega)).trans q2⟩
      have GT:Hid ((∀ y ∈ bs,q6 < y)∧(∀ y ∈ bd,q6 < y)∧q6 < ((u.alloc (.cells #[.int .i64 rk,.int .i64 rn,.slice a2 l2 c2] 46)).alloc (.cells #[.int .i64 rk,.int .i64 rn,.slice a2 l2 c2] 46)).heap.size):=⟨gt,gtk,by simp;omega⟩;obtain ⟨⟨z0,z1,z2⟩,-⟩:=three b6;clear hT HL LV gA gB gAB bB esz g1 br b4 b6 acc kid gtk dis ndk nd gt na hok hno
      have hjl:j≤100000:=by omega
      simp only[];go_wp2_with (at_builtin;go_must (refine wpList_pushT rfl (.tmp 70) (.tmp 72) 43 rfl 46 i0 _ Tryz.underlying43 hi hz0 hz1 hz2 rfl av j cv P bs rfl AC.out.1 AC.out.2.2.1 AC.out.2.2.2.2.2 hjl ⟨u.heap.size+1,0,none⟩ rfl rk rn a2 l2 c2 NW.out rd bd AC.out.2.1 AC.out.2.2.2.1 AC.out.2.2.2.2.1 ?_);intro a3 c3 bs3 u3 h1 h2 h3 h4 h5;obtain ⟨⟨v0,v1,v2⟩,f0,f1,f2⟩:=three (FB.out u3 h4).2.2.2);have ks:=gsc u3 q6 2 (.slice a3 (j+1) c3);obtain ⟨g3,br3,b43,b63⟩:=FB.out u3 h4
      have hgt:∀ y ∈ bs3,q6 < y:=fun y hy=>by
       rcases h3 y hy with hy|hy|hy
       ·
        exact GT.out.1 y hy
       ·
        exact GT.out.2.1 y hy
       ·
        have:=GT.out.2.2;omega
      have LN:Hid (w.grownBy (u3.setCell ⟨q6,2,none⟩ (.slice a3 (j+1) c3)) (some q)∧Rdr (u3.setCell ⟨q6,2,none⟩ (.slice a3 (j+1) c3)) q (some ⟨b,off,none⟩) N cap x' m∧(u3.setCell ⟨q6,2,none⟩ (.slice a3 (j+1) c3)).heap[q4]? = some (Obj.cells #[.int .i64 0,.int .i64 0,.slice none 0 0] 46)∧(u3.setCell ⟨q6,2,none⟩ (.slice a3 (j+1) c3)).heap[q6]? = some (Obj.cells #[.int .i64 k,.int .i64 n,.slice a3 (j+1) c3] 46)∧SlO (u3.setCell ⟨q6,2,none⟩ (.slice a3 (j+1) c3)) 46 a3 (j+1) c3 (P.app (.cons rk rn rd .nil)) bs3∧bs3.Nodup∧(∀ y ∈ bs3,q6 < y)∧(c3=0→a3=none)):=⟨grown_intoR g3 ks (by have:=PQ.out;omega),(ks.block _ (lbk br3) (by have:=PQ.out;simp;omega)).trans br3,(ks.block _ (lbk b43) (by simp;omega)).trans b43,hsm u3 q6 2 _ _ _ b63,h1.kept ks (fun y hy=>by have:=hgt y hy;simp;omega),h2,hgt,fun h=>by omega⟩;have hlen:(P.app (.cons rk rn rd .nil)).len=j+1:=h1.1
      have hcr:c - (j+1)=r':=by omega
      clear ks g3 br3 b43 b63 hgt h1 h2 h3 h4 FB GT NW AC;go_roundw
      case rel=>exact ⟨j+1,P.app (.cons rk rn rd .nil),x',m,a3,c3,bs3,by omega,by go_num,hy0,by omega,hm,hlen,by rw[hcr];exact HL2,LN⟩
      case measure=>simp [intOf];omega
    ·
     obtain rfl:j=c:=by omega
     obtain ⟨g1,br,b4,b6,acc,nd,gt,na⟩:=LI.out
     have hLR:LR=some (P,x,rr):=by rw[HL.out,Nat.sub_self];simp [rIL,appI,F.app_nil]
     have EN:Hid (rI zs (d+1) r (pn:Int)=some (k,n,P,x,rr)):=by show _=_;rw[ER.out,hLR]
     obtain ⟨⟨z0,z1,z2⟩,h0,h3,h4⟩:=three b4;obtain ⟨⟨y0,y1,y2⟩,f0,f1,f2⟩:=three b6;obtain ⟨d1,k1⟩:=fill3 (.int .i64 k) (.int .i64 n) (.slice av j cv) b4;have FQ:Hid (_∧w.grownBy _ (some q)∧Rdr _ q (some ⟨b,off,none⟩) N cap x rr∧New w _ 46 av j cv P bs):=⟨d1,grown_intoR g1 k1 (by have:=PQ.out;omega),(k1.block _ (lbk br) (by have:=PQ.out;simp;omega)).trans br,acc.kept k1 (fun y hy=>by have:=gt y hy;have:=PQ.out;simp;omega),nd,fun y hy=>by have:=gt y hy;have:=PQ.out;omega⟩;clear g1 br b4 b6 acc nd gt na hLR HL ER d1 k1 LI IH HR;go_wp2
     (try simp only[Exit.inBlock,Exit.then])
     refine bodyPost_ret (results_cell2 (P:=Tryz.prog) Tryz.results95 _ _ q4 _ _ _ _ rfl FQ.out.1 Tryz.underlying46 rfl (by kernel_rfl)) rfl ?_;exact ⟨k,n,P,av,j,cv,bs,x,(rr:Int),true,rfl,FQ.out.2.1,FQ.out.2.2.1,FQ.out.2.2.2,(fun _=>⟨rr,rfl,hrr,EN.out⟩),fun h=>by cases h⟩
end Go.Proofs.YtnmlbeefjjohfaaGreatDoor.By
