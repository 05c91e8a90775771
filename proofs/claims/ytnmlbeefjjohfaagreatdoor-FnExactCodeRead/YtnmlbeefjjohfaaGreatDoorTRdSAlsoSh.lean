/-
  No statement is proved here.
-/
import Derived.Test.YtnmlbeefjjohfaaGreatDoorTMarkAlsoSh
import Derived.Deep.AppendSrc
namespace Go.Proofs.YtnmlbeefjjohfaaGreatDoor.By
set_option maxRecDepth 100000
set_option maxHeartbeats 16000000
open Go.RowKit
set_option linter.unusedVariables false
set_option linter.unusedSimpArgs false
theorem one3 (k n:Int) (a:Option Addr) (l c:Nat):∀ v ∈ [Value.int .i64 k,Value.int .i64 n,Value.slice a l c],v.oneCell' = true:=by
 intro v hv;simp only[List.mem_cons,List.not_mem_nil,or_false] at hv;rcases hv with rfl|rfl|rfl <;> rfl
theorem cells_take {w:World} {g c l:Nat} {t:TypeId} {cur:Array Value} (hc:w.heap[g]? = some (.cells cur t (0,0))) (hs:cur.size=c * 3) (hl:l≤c):∀ j,j < l * 3→w.cell? ⟨g,j,none⟩=(cur.toList.take (l * 3))[j]?:=by
 intro j hj;rw[cell_of_row w g j cur t (0,0) hc,List.getElem?_take_of_lt hj,Array.getElem?_toList]
theorem run_pushT {P:Program} {w:World} (t ty e:TypeId) (i:TypeInfo) (z:Value) (ht:P.underlying t=some (.slice e)) (hi:P.info? e=some i) (hz:i.zero=some z) (hsize:i.size=3) (hby:i.bytes=40) (hzs:z.cells.size=3)
  (a:Option Addr) (l c:Nat) (f:F) (bs:List Nat) (h:SlO w e a l c f bs) (hnd:bs.Nodup) (ha:c=0→a=none) (hl:l≤100000) (ad:Addr) (k n:Int) (a':Option Addr) (l' c':Nat) (hnews:∀ j u,[Value.int .i64 k,Value.int .i64 n,Value.slice a' l' c'][j]? = some u→w.cell? (ad.add j)=some u)
  (d:F) (bd:List Nat) (hd:SlO w e a' l' c' d bd) (hndd:bd.Nodup) (hdis:∀ x ∈ bs,x ∉ bd) :
  ∃ a2 c2 bs2 w',(Builtin.append_ #[t,t] ty #[.slice a l c,.slice (some ad) 1 1]).run P w = .ok (.slice a2 (l+1) c2) w'∧SlO w' e a2 (l+1) c2 (f.app (.cons k n d .nil)) bs2∧bs2.Nodup∧(∀ x ∈ bs2,x ∈ bs∨x ∈ bd∨w.heap.size≤x)∧Tn w w' bs∧0 < c2:=by
 have hlt:=h.lt;have hltd:=hd.lt;obtain ⟨hfl,hlm,hlc,hx⟩:=h;have src:Src P i.size t (.slice (some ad) 1 1) 1 [Value.int .i64 k,Value.int .i64 n,Value.slice a' l' c'] w:=Src.ofSlice w ht ad 1 1 _ (by simp [hsize]) hnews (one3 _ _ _ _ _)
 have hlen1:(f.app (.cons k n d .nil)).len=l+1:=by rw[F.app_len,hfl];rfl
 have hgrow:∀ (olds:List Value) (bs':List Nat) (hold:(Builtin.firstCells i.size l (.slice a l c)).run P w.drew = .ok olds.toArray w.drew) (hol:olds.length=l * 3) (hd':c < l+1) (hbs:∀ x ∈ bs',x ∈ bs) (hnb:bs'.Nodup) (hcp:∀ (u:World) (g:Nat),(∀ j,j < l * 3→u.cell? ⟨g,j,none⟩=olds[j]?)→(∀ x ∈ bs',u.heap[x]? = w.heap[x]?)→OwnF u e f g 0 bs'),
   ∃ a2 c2 bs2 w',(Builtin.append_ #[t,t] ty #[.slice a l c,.slice (some ad) 1 1]).run P w = .ok (.slice a2 (l+1) c2) w'∧SlO w' e a2 (l+1) c2 (f.app (.cons k n d .nil)) bs2∧bs2.Nodup∧(∀ x ∈ bs2,x ∈ bs∨x ∈ bd∨w.heap.size≤x)∧Tn w w' bs∧0 < c2:=by
  intro olds bs' hold hol hd' hbs hnb hcp;have r:=run_append_grow_src (P:=P) w t t ty e i z ht hi hz a l c olds hold (.slice (some ad) 1 1) 1 _ src hd' (by omega) (growslice_fits hd' (by rw[hby];omega));have hge:=grownCap_ge w (l+1) c e;have hnew:=hnw w.drew (.cells ((olds++[Value.int .i64 k,Value.int .i64 n,Value.slice a' l' c']).toArray++Builtin.zeroCells z.cells (grownCap w (l+1) c e - (l+1))) e);have htn:Tn w (w.drew.alloc (.cells ((olds++[Value.int .i64 k,Value.int .i64 n,Value.slice a' l' c']).toArray++Builtin.zeroCells z.cells (grownCap w (l+1) c e - (l+1))) e)) []:=⟨rfl,rfl,rfl,by simp,fun x hx _=>heap_alloc_old w.drew _ hx⟩;have hnew:(w.drew.alloc (.cells ((olds++[Value.int .i64 k,Value.int .i64 n,Value.slice a' l' c']).toArray++Builtin.zeroCells z.cells (grownCap w (l+1) c e - (l+1))) e)).heap[w.heap.size]? = _:=hnew;generalize (w.drew.alloc (.cells ((olds++[Value.int .i64 k,Value.int .i64 n,Value.slice a' l' c']).toArray++Builtin.zeroCells z.cells (grownCap w (l+1) c e - (l+1))) e))=u at r hnew htn
  have hsz:((olds++[Value.int .i64 k,Value.int .i64 n,Value.slice a' l' c']).toArray++Builtin.zeroCells z.cells (grownCap w (l+1) c e - (l+1))).size=grownCap w (l+1) c e * 3:=by
   simp only[Array.size_append,sA9,size_zeroCells,hzs,lA,hol,lB,lC];omega
  have hcell:∀ j,j < l * 3+3→u.cell? ⟨w.heap.size,j,none⟩=(olds++[Value.int .i64 k,Value.int .i64 n,Value.slice a' l' c'])[j]?:=by
   intro j hj;rw[cell_of_row u w.heap.size j _ e (0,0) hnew,Array.getElem?_append_left (by simp [hol];omega),List.getElem?_toArray]
  have hold':∀ x,x < w.heap.size→u.heap[x]? = w.heap[x]?:=fun x hx=>htn.block x hx (by simp)
  have hO:=hcp u w.heap.size (fun j hj=>by rw[hcell j (by omega),List.getElem?_append_left (by omega)]) (fun x hx=>hold' x (hlt x (hbs x hx)));have hD:=hd.of (w':=u) (fun x hx=>hold' x (hltd x hx))
  have q0:u.cell? ⟨w.heap.size,0+f.len * 3,none⟩=some (.int .i64 k):=by rw[hfl,Nat.zero_add,hcell _ (by omega),List.getElem?_append_right (by omega),hol];simp
  have q1:u.cell? ⟨w.heap.size,0+f.len * 3+1,none⟩=some (.int .i64 n):=by rw[hfl,Nat.zero_add,hcell _ (by omega),List.getElem?_append_right (by omega),hol];simp
  have q2:u.cell? ⟨w.heap.size,0+f.len * 3+2,none⟩=some (.slice a' l' c'):=by rw[hfl,Nat.zero_add,hcell _ (by omega),List.getElem?_append_right (by omega),hol];simp
  have hA:=hO.app (OwnF.one q0 q1 q2 hD);refine ⟨_,_,w.heap.size::(bs'++bd),u,r,⟨hlen1,by omega,hge,.inr ⟨_,_,by omega,rfl,rfl,⟨_,hnew,hsz⟩,hA⟩⟩,List.nodup_cons.2 ⟨fun hx=>?_,List.nodup_append.2 ⟨hnb,hndd,fun x hx y hy e=>?_⟩⟩,fun x hx=>?_,htn.mono (fun x hx=>by simp at hx),by omega⟩
  ·
   rcases List.mem_append.1 hx with hx|hx
   ·
    have:=hlt _ (hbs _ hx);omega
   ·
    have:=hltd _ hx;omega
  ·
   subst e;exact hdis x (hbs x hx) hy
  ·
   rcases List.mem_cons.1 hx with rfl|hx
   ·
    exact .inr (.inr (Nat.le_refl _))
   ·
    rcases List.mem_append.1 hx with hx|hx
    ·
     exact .inl (hbs x hx)
    ·
     exact .inr (.inl hx)
 rcases hx with ⟨hc0,hb0⟩|⟨g,bs',hp0,rfl,rfl,⟨cur,hg,hsz⟩,hown⟩
 ·
  obtain rfl:=ha hc0
  obtain rfl:l=0:=by omega
  obtain rfl:=F.nil_of_len hfl;subst hc0 hb0;exact hgrow [] [] (run_firstCells_none w.drew i.size 0 0 0) rfl (by omega) (fun x hx=>hx) List.nodup_nil (fun u g _ _=>rfl)
 ·
  obtain ⟨hng,hnb⟩:=List.nodup_cons.1 hnd;by_cases hroom:l+1≤c
  ·
   have hB:Blk w e g c:=⟨cur,hg,hsz⟩;obtain ⟨hB3,hk3,⟨t0,t1,t2⟩,hoth⟩:=hB.put3 (l * 3) (by omega) (.int .i64 k) (.int .i64 n) (.slice a' l' c');have r:=run_append_room_src (P:=P) w t t ty e i ht hi g 0 l c (.slice (some ad) 1 1) 1 _ src hroom (by rw[hsize];intro j hj;obtain ⟨v,hv⟩:=hB.has (l * 3+j) (by simp at hj;omega);rw[Nat.zero_add,hv];rfl) (by rw[hsize];intro j hj;exact hB.free _);rw[hsize,Nat.zero_add] at r;have r':(Builtin.append_ #[t,t] ty #[.slice (some ⟨g,0,none⟩) l c,.slice (some ad) 1 1]).run P w = .ok (.slice (some ⟨g,0,none⟩) (l+1) c) (((w.setCell ⟨g,l * 3,none⟩ (.int .i64 k)).setCell ⟨g,l * 3+1,none⟩ (.int .i64 n)).setCell ⟨g,l * 3+2,none⟩ (.slice a' l' c')):=r;generalize ((w.setCell ⟨g,l * 3,none⟩ (.int .i64 k)).setCell ⟨g,l * 3+1,none⟩ (.int .i64 n)).setCell ⟨g,l * 3+2,none⟩ (.slice a' l' c')=u at r' hB3 hk3 t0 t1 t2 hoth
   have hne:∀ x,x≠g→some x≠some g:=fun x hx e=>hx (by injection e)
   have hO:=hown.move (w':=u) (b':=g) (off':=0) (fun j hj=>hoth _ (.inl (by omega))) (fun x hx=>hk3.block x (hlt x (List.mem_cons_of_mem _ hx)) (hne x (fun e=>hng (e ▸ hx))));have hD:=hd.kept hk3 (fun x hx=>hne x (fun e=>hdis g (by simp) (e ▸ hx)));have hA:=hO.app (OwnF.one (b:=g) (off:=0+f.len * 3) (by rw[hfl,Nat.zero_add];exact t0) (by rw[hfl,Nat.zero_add];exact t1) (by rw[hfl,Nat.zero_add];exact t2) hD);refine ⟨_,_,g::(bs'++bd),u,r',⟨hlen1,by omega,hroom,.inr ⟨_,_,by omega,rfl,rfl,hB3,hA⟩⟩,List.nodup_cons.2 ⟨fun hx=>?_,List.nodup_append.2 ⟨hnb,hndd,fun x hx y hy e=>?_⟩⟩,fun x hx=>?_,(Tn.row hk3).mono (fun x hx=>by simp at hx;subst hx;simp),by omega⟩
   ·
    rcases List.mem_append.1 hx with hx|hx
    ·
     exact hng hx
    ·
     exact hdis g (by simp) hx
   ·
    subst e;exact hdis x (List.mem_cons_of_mem _ hx) hy
   ·
    rcases List.mem_cons.1 hx with rfl|hx
    ·
     exact .inl (by simp)
    ·
     rcases List.mem_append.1 hx with hx|hx
     ·
      exact .inl (List.mem_cons_of_mem _ hx)
     ·
      exact .inr (.inl hx)
  ·
   have hct:=cells_take hg hsz hlc;refine hgrow (cur.toList.take (l * 3)) bs' ?_ (by simp;omega) (by omega) (fun x hx=>List.mem_cons_of_mem _ hx) hnb (fun u g' hc hb=>hown.move (fun j hj=>?_) hb)
   ·
    refine run_firstCells_some w.drew i.size l ⟨g,0,none⟩ l c _ (by simp [hsize];omega) (fun j u hu=>?_)
    have hj:j < l * 3:=by have:=(List.getElem?_eq_some_iff.1 hu).1;simp at this;omega
    rw[Go.WideShapes.add_plain,Nat.zero_add];exact (hct j hj).trans hu
   ·
    rw[Nat.zero_add,hc j (by omega),hct j (by omega)]
theorem wp_pushT {P:Program} {o:Oper} {ac:Act} {w:World} {K:Act→World→Prop} {Q:Exit→Act→World→Prop}
  (s x:Operand) (t:TypeId) (ho:o.op = .call { callee:=.builtin .append,args:=#[s,x],argTypes:=#[t,t] })
  (e:TypeId) (i:TypeInfo) (z:Value) (ht:P.underlying t=some (.slice e)) (hi:P.info? e=some i) (hz:i.zero=some z) (hsize:i.size=3) (hby:i.bytes=40) (hzs:z.cells.size=3)
  (a:Option Addr) (l c:Nat) (f:F) (bs:List Nat) (hs:ac.eval s = .slice a l c) (h:SlO w e a l c f bs) (hnd:bs.Nodup) (ha:c=0→a=none) (hl:l≤100000) (ad:Addr) (hx:ac.eval x = .slice (some ad) 1 1) (k n:Int) (a':Option Addr) (l' c':Nat) (hnews:∀ j u,[Value.int .i64 k,Value.int .i64 n,Value.slice a' l' c'][j]? = some u→w.cell? (ad.add j)=some u)
  (d:F) (bd:List Nat) (hd:SlO w e a' l' c' d bd) (hndd:bd.Nodup) (hdis:∀ x ∈ bs,x ∉ bd)
  (H:∀ a2 c2 bs2 w',SlO w' e a2 (l+1) c2 (f.app (.cons k n d .nil)) bs2→bs2.Nodup→(∀ x ∈ bs2,x ∈ bs∨x ∈ bd∨w.heap.size≤x)→Tn w w' bs→0 < c2→K (ac.put o.dst (.slice a2 (l+1) c2)) w') :
  Oper.wp P o ac w K Q:=by
 obtain ⟨a2,c2,bs2,w',hrun,h1,h2,h3,h4,h5⟩:=run_pushT (P:=P) (w:=w) t o.type e i z ht hi hz hsize hby hzs a l c f bs h hnd ha hl ad k n a' l' c' hnews d bd hd hndd hdis;unfold Oper.wp execOp;simp only[ho,resolve,invoke,builtin,Sem.run_bind,Sem.run_pure,Result.andThen_ok,List.map_toArray,List.map_cons,List.map_nil,hs,hx,hrun];exact H a2 c2 bs2 w' h1 h2 h3 h4 h5
theorem wpList_pushT {P:Program} {w:World} {ops:Array Oper} {rest:List Oper} {o:Oper} {ac:Act} {Q:Exit→Act→World→Prop}
  (hg:o.guard=none) (s x:Operand) (t:TypeId) (ho:o.op = .call { callee:=.builtin .append,args:=#[s,x],argTypes:=#[t,t] })
  (e:TypeId) (i:TypeInfo) (z:Value) (ht:P.underlying t=some (.slice e)) (hi:P.info? e=some i) (hz:i.zero=some z) (hsize:i.size=3) (hby:i.bytes=40) (hzs:z.cells.size=3)
  (a:Option Addr) (l c:Nat) (f:F) (bs:List Nat) (hs:ac.eval s = .slice a l c) (h:SlO w e a l c f bs) (hnd:bs.Nodup) (ha:c=0→a=none) (hl:l≤100000) (ad:Addr) (hx:ac.eval x = .slice (some ad) 1 1) (k n:Int) (a':Option Addr) (l' c':Nat) (hnews:∀ j u,[Value.int .i64 k,Value.int .i64 n,Value.slice a' l' c'][j]? = some u→w.cell? (ad.add j)=some u)
  (d:F) (bd:List Nat) (hd:SlO w e a' l' c' d bd) (hndd:bd.Nodup) (hdis:∀ x ∈ bs,x ∉ bd)
  (H:∀ a2 c2 bs2 w',SlO w' e a2 (l+1) c2 (f.app (.cons k n d .nil)) bs2→bs2.Nodup→(∀ x ∈ bs2,x ∈ bs∨x ∈ bd∨w.heap.size≤x)→Tn w w' bs→0 < c2→wpList P ops Q rest (ac.put o.dst (.slice a2 (l+1) c2)) w') :
  wpList P ops Q (o::rest) ac w :=
 wpList_plain hg fun _ hK=>wp_pushT s x t ho e i z ht hi hz hsize hby hzs a l c f bs hs h hnd ha hl ad hx k n a' l' c' hnews d bd hd hndd hdis fun a2 c2 bs2 w' h1 h2 h3 h4 h5=>hK _ _ (H a2 c2 bs2 w' h1 h2 h3 h4 h5)
theorem news3 {u:World} {q:Nat} {v0 v1 v2:Value} (h0:u.cell? ⟨q,0,none⟩=some v0) (h1:u.cell? ⟨q,1,none⟩=some v1) (h2:u.cell? ⟨q,2,none⟩=some v2):∀ j v,[v0,v1,v2][j]? = some v→u.cell? ((⟨q,0,none⟩:Addr).add j)=some v:=by
 intro j v hv;rw[Go.WideShapes.add_plain,Nat.zero_add]
 match j,hv with
 | 0,hv=>simp at hv;subst hv;exact h0
 | 1,hv=>simp at hv;subst hv;exact h1
 | 2,hv=>simp at hv;subst hv;exact h2
 | j+3,hv=>simp at hv
theorem results_cell2 {P:Program} {fn:Func} {p u:Tmp} {ty:TypeId} (h:fn.results=#[.cell p ty,.tmp u]) (tmps:Array Value) (w:World) (g:Nat) (t:TypeId) (cs:Array Value) (fr:Nat × Nat) (d:TypeDesc)
  (hp:tmps.getD p undef = .pointer (some ⟨g,0,none⟩)) (hg:w.heap[g]? = some (.cells cs t fr))
  (hu:P.underlying ty=some d) (hd:(match d with | .struct _ | .array _ _=>true|_=>false)=true) (hi:(P.info? ty).map (·.size)=some cs.size) :
  (results fn tmps).run P w = .ok (.tuple #[.agg cs,tmps.getD u undef]) w:=by
 have hp':tmps[p]?.getD undef = .pointer (some ⟨g,0,none⟩):=by simpa using hp
 simp [results,h,hp',asAddr,run_loadVar_row w g t ty cs fr d hg hu hd hi]
theorem New.nil (w u:World) (t:TypeId):New w u t Option.none 0 0 .nil []:=⟨⟨rfl,by omega,by omega,.inl ⟨rfl,rfl⟩⟩,List.nodup_nil,fun x hx=>by simp at hx⟩
theorem specGet2 (a:Option Addr) (n cap:Nat) (zs:List Int) (p:Int) (w:World) (h:Reads w a n zs) (hz:Byt zs) (hn:n≤4194304) (hp:p≤9223372036854775807) :
  Calls Tryz.prog 29 #[.slice a n cap,.int .i64 p] w fun e u=>e = .returned (.tuple #[.int .i64 (getNum zs p).1,.int .i64 (getNum zs p).2])∧w.grownBy u none :=
 (specGet a n cap zs p w h hz hn hp).mono fun e u ⟨he,hq⟩=>⟨he,quiet hq⟩
def RdP (w:World) (R:Int × Int × F × Int) (e:Ending) (u:World):Prop:=∃ a' l' c' bs,e = .returned (.tuple #[.agg #[.int .i64 R.1,.int .i64 R.2.1,.slice a' l' c'],.int .i64 R.2.2.2])∧w.grownBy u none∧New w u 46 a' l' c' R.2.2.1 bs
theorem l3readT (a:Option Addr) (N cap:Nat) (zs:List Int) (hz:Byt zs) (hN:N≤1048576) (pd:Nat):∀ (p:Int) (w:World),pd≤10→Reads w a N zs→p≤9223372036854775807 →
  Calls Tryz.prog 52 #[.slice a N cap,.int .i64 p,.int .i64 (11 - pd)] w fun e u=>RdP w (rdR zs pd p) e u:=by
 induction pd with
 | zero =>
  intro p w _ h hp;have EN:Hid (rdR zs 0 p=(0,0,.nil,-1)):=rfl;have hl:=h.1;by_cases h1:p < 0
  ·
   clear h;go_enter Tryz.func52,Tryz.ntmps52;go_wp2
   (try simp only[Exit.inBlock,Exit.then])
   refine bodyPost_ret (results_cell2 (P:=Tryz.prog) Tryz.results52 _ _ w.heap.size _ _ _ _ rfl (hnw w _) Tryz.underlying46 rfl (by kernel_rfl)) rfl ?_;rw[EN.out];exact ⟨none,0,0,[],rfl,gal _ _ _,New.nil _ _ _⟩
  ·
   by_cases h2:(N:Int)≤p
   ·
    clear h;go_enter Tryz.func52,Tryz.ntmps52;go_wp2
    (try simp only[Exit.inBlock,Exit.then])
    refine bodyPost_ret (results_cell2 (P:=Tryz.prog) Tryz.results52 _ _ w.heap.size _ _ _ _ rfl (hnw w _) Tryz.underlying46 rfl (by kernel_rfl)) rfl ?_;rw[EN.out];exact ⟨none,0,0,[],rfl,gal _ _ _,New.nil _ _ _⟩
   ·
    clear h;go_enter Tryz.func52,Tryz.ntmps52;go_wp2
    (try simp only[Exit.inBlock,Exit.then])
    refine bodyPost_ret (results_cell2 (P:=Tryz.prog) Tryz.results52 _ _ w.heap.size _ _ _ _ rfl (hnw w _) Tryz.underlying46 rfl (by kernel_rfl)) rfl ?_;rw[EN.out];exact ⟨none,0,0,[],rfl,gal _ _ _,New.nil _ _ _⟩
 | succ pd ih =>
  intro p w hpd h hp;have hl:=h.1;by_cases h1:p < 0
  ·
   have EN:Hid (rdR zs (pd+1) p=(0,0,.nil,-1)):=rdR_no (by unfold hd;rw[if_pos (.inl h1)]);clear h ih;go_enter Tryz.func52,Tryz.ntmps52;go_wp2
   (try simp only[Exit.inBlock,Exit.then])
   refine bodyPost_ret (results_cell2 (P:=Tryz.prog) Tryz.results52 _ _ w.heap.size _ _ _ _ rfl (hnw w _) Tryz.underlying46 rfl (by kernel_rfl)) rfl ?_;rw[EN.out];exact ⟨none,0,0,[],rfl,gal _ _ _,New.nil _ _ _⟩
  by_cases h2:(N:Int)≤p
  ·
   have EN:Hid (rdR zs (pd+1) p=(0,0,.nil,-1)):=rdR_no (by unfold hd;rw[if_pos (.inr (by omega))]);clear h ih;go_enter Tryz.func52,Tryz.ntmps52;go_wp2
   (try simp only[Exit.inBlock,Exit.then])
   refine bodyPost_ret (results_cell2 (P:=Tryz.prog) Tryz.results52 _ _ w.heap.size _ _ _ _ rfl (hnw w _) Tryz.underlying46 rfl (by kernel_rfl)) rfl ?_;rw[EN.out];exact ⟨none,0,0,[],rfl,gal _ _ _,New.nil _ _ _⟩
  obtain ⟨pn,rfl⟩:∃ pn:Nat,p=(pn:Int):=⟨p.toNat,by omega⟩
  have hpn:pn < N:=by omega
  have hbk:=byt_get hz pn;rcases h.2 with h0|⟨b,off,rfl,hc⟩
  ·
   exact absurd hpn (by omega)
  have hck:=hc pn hpn;have hbl:=block_lt_of_cell hck;have HR:Hid (Reads w (some ⟨b,off,none⟩) N zs):=h
  have EH:Hid (hd zs (pn:Int)=hdN zs (zs.getD pn 0) ((pn:Int)+1)):=by show _=_;unfold hd;rw[if_neg (by omega)];simp
  rw[List.getD_eq_getElem?_getD] at EH hck;generalize hk:zs[pn]?.getD 0=k at *
  have hdeep:¬ (10 < (11:Int) - ((pd+1:Nat):Int)):=by omega
  generalize hdp:(11:Int) - ((pd+1:Nat):Int)=deep at *;have IH:Hid _:=ih;have DP:Hid ((11:Int) - ((pd+1:Nat):Int)=deep∧pd+1≤10):=⟨hdp,hpd⟩;clear ih h hc hk hdp hpd;obtain ⟨b6,b8,bsz⟩:=alloc2_blocks w (.cells #[.int .i64 0,.int .i64 0,.slice none 0 0] 46) (.cells #[.int .i64 k,.int .i64 0,.slice none 0 0] 46);have g0:=grown_alloc (grown_alloc (grf w none) (.cells #[.int .i64 0,.int .i64 0,.slice none 0 0] 46)) (.cells #[.int .i64 k,.int .i64 0,.slice none 0 0] 46);have L0:Hid (w.grownBy _ none∧_=some (Obj.cells #[.int .i64 0,.int .i64 0,.slice none 0 0] 46)∧_=some (Obj.cells #[.int .i64 k,.int .i64 0,.slice none 0 0] 46)):=⟨g0,b6,b8⟩;clear g0 b6 b8 bsz;go_enter Tryz.func52,Tryz.ntmps52;go_upto_block 0 with fail;obtain ⟨g0,b6,b8⟩:=L0.out;clear L0;generalize (w.alloc (.cells #[.int .i64 0,.int .i64 0,.slice none 0 0] 46)).alloc (.cells #[.int .i64 k,.int .i64 0,.slice none 0 0] 46)=W0 at *;generalize e6:w.heap.size=q6 at *
  generalize e8:q6+1=q8 at *;have PQ:Hid (w.heap.size=q6∧q6+1=q8):=⟨e6,e8⟩;have LI:Hid (w.grownBy W0 none∧W0.heap[q6]? = some (Obj.cells #[.int .i64 0,.int .i64 0,.slice none 0 0] 46)∧W0.heap[q8]? = some (Obj.cells #[.int .i64 k,.int .i64 0,.slice none 0 0] 46)):=⟨g0,b6,b8⟩
  have zero:∀ u,w.grownBy u none→u.heap[q6]? = some (Obj.cells #[.int .i64 0,.int .i64 0,.slice none 0 0] 46)→_∧w.grownBy (((u.setCell ⟨q6,0,none⟩ (.int .i64 0)).setCell ⟨q6,1,none⟩ (.int .i64 0)).setCell ⟨q6,2,none⟩ (.slice none 0 0)) none:=fun u hu hp=>⟨(fill3 (.int .i64 0) (.int .i64 0) (.slice none 0 0) hp).1,grown_into hu (fill3 (.int .i64 0) (.int .i64 0) (.slice none 0 0) hp).2 (by omega)⟩
  have ZR:Hid _:=zero;clear zero g0 b6 b8 e6 e8 hck
  go_cut [1,9] (fun s1 s9 wx=>∃ (n nx:Int) (cc:Nat),s1 = .int .i64 nx∧s9 = .int .i64 cc∧Hid (hdN zs k ((pn:Int)+1)=some (k,n,cc,nx))∧Hid (w.grownBy wx none∧wx.heap[q6]? = some (Obj.cells #[.int .i64 0,.int .i64 0,.slice none 0 0] 46)∧wx.heap[q8]? = some (Obj.cells #[.int .i64 k,.int .i64 n,.slice none 0 0] 46)))
  case first =>
   clear IH;by_cases k0:k=0
   ·
    subst k0;go_wp2;go_meet;case rel=>exact ⟨0,_,0,rfl,rfl,rfl,LI⟩
   by_cases k1:k=1
   ·
    subst k1;go_wp2;go_meet;case rel=>exact ⟨0,_,0,rfl,rfl,rfl,LI⟩
   by_cases k2:k=2
   ·
    subst k2;go_wp2;go_meet;case rel=>exact ⟨0,_,0,rfl,rfl,rfl,LI⟩
   by_cases k3:k=3
   ·
    subst k3;go_wp2;go_meet;case rel=>exact ⟨0,_,2,rfl,rfl,rfl,LI⟩
   by_cases k4:k=4
   ·
    subst k4;go_wp2;go_meet;case rel=>exact ⟨0,_,2,rfl,rfl,rfl,LI⟩
   by_cases k5:k=5
   ·
    subst k5;go_wp2;go_meet;case rel=>exact ⟨0,_,1,rfl,rfl,rfl,LI⟩
   by_cases k7:k=7
   ·
    subst k7;clear k0 k1 k2 k3 k4 k5;have G1:Hid (Reads W0 (some ⟨b,off,none⟩) N zs):=HR.out.none LI.out.1;have C1:Hid _:=specGet2 (some ⟨b,off,none⟩) N cap zs ((pn:Int)+1) W0 G1.out hz (by omega) (by omega);have bd:=getNum_bounds zs hz ((pn:Int)+1);have EX:Hid (∃ n1 x1,getNum zs ((pn:Int)+1)=(n1,x1)):=⟨_,_,rfl⟩;obtain ⟨n1,x1,hG⟩:=EX.out;clear EX;rw[hG] at C1 bd;simp only[] at C1 bd;have HG:Hid (getNum zs ((pn:Int)+1)=(n1,x1)):=hG
    have BD:Hid (x1≤N∧-1≤x1):=by rcases bd with bd|bd <;> (try (injection bd with b1 b2)) <;> (show _∧_;omega)
    clear hG bd G1;go_wp2_with fail;refine Calls.mono C1.out ?_;rintro e u1 ⟨rfl,hg⟩;have L1:Hid (w.grownBy u1 none∧u1.heap[q6]? = some (Obj.cells #[.int .i64 0,.int .i64 0,.slice none 0 0] 46)∧u1.heap[q8]? = some (Obj.cells #[.int .i64 7,.int .i64 0,.slice none 0 0] 46)):=⟨gtr LI.out.1 hg,(hg.block _ (lbk LI.out.2.1) (by simp)).trans LI.out.2.1,(hg.block _ (lbk LI.out.2.2) (by simp)).trans LI.out.2.2⟩
    have hne:q6≠q8:=by have:=PQ.out;omega
    have ks:=gsc u1 q8 1 (.int .i64 n1);have L2:Hid (w.grownBy _ none∧_=some (Obj.cells #[.int .i64 0,.int .i64 0,.slice none 0 0] 46)∧_=some (Obj.cells #[.int .i64 7,.int .i64 n1,.slice none 0 0] 46)):=⟨grown_into L1.out.1 ks (by have:=PQ.out;omega),(ks.block _ (lbk L1.out.2.1) (by simp;omega)).trans L1.out.2.1,hsm u1 q8 1 _ _ _ L1.out.2.2⟩;obtain ⟨⟨y0,y1,y2⟩,f0,f1,f2⟩:=three L1.out.2.2;obtain ⟨⟨z0,z1,z2⟩,h0,h3,h4⟩:=three L2.out.2.1;clear hg C1 LI ks;simp only[];by_cases hx:x1 < 0
    ·
     have EN:Hid (rdR zs (pd+1) (pn:Int)=(0,0,.nil,-1)):=rdR_no (by rw[EH.out];unfold hdN;rw[HG.out];simp [hx]);have FQ:Hid _:=ZR.out _ L2.out.1 L2.out.2.1;clear ZR HG BD L1 L2 EH HR;go_wp2
     (try simp only[Exit.inBlock,Exit.then])
     refine bodyPost_ret (results_cell2 (P:=Tryz.prog) Tryz.results52 _ _ q6 _ _ _ _ rfl FQ.out.1 Tryz.underlying46 rfl (by kernel_rfl)) rfl ?_;rw[EN.out];exact ⟨none,0,0,[],rfl,FQ.out.2,New.nil _ _ _⟩
    ·
     have HH:Hid (hdN zs 7 ((pn:Int)+1)=some (7,n1,0,x1)):=by show _=_;unfold hdN;rw[HG.out];simp [hx]
     clear ZR HG BD L1 EH HR;go_wp2;go_meet
     case rel=>exact ⟨n1,x1,0,rfl,rfl,HH,L2⟩
   by_cases k6:k=6
   ·
    subst k6;clear k0 k1 k2 k3 k4 k5 k7;have G1:Hid (Reads W0 (some ⟨b,off,none⟩) N zs):=HR.out.none LI.out.1;have C1:Hid _:=specGet2 (some ⟨b,off,none⟩) N cap zs ((pn:Int)+1) W0 G1.out hz (by omega) (by omega);have bd:=getNum_bounds zs hz ((pn:Int)+1);have EX:Hid (∃ n1 x1,getNum zs ((pn:Int)+1)=(n1,x1)):=⟨_,_,rfl⟩;obtain ⟨n1,x1,hG⟩:=EX.out;clear EX;rw[hG] at C1 bd;simp only[] at C1 bd;have HG:Hid (getNum zs ((pn:Int)+1)=(n1,x1)):=hG
    have BD:Hid (x1≤N∧-1≤x1):=by rcases bd with bd|bd <;> (try (injection bd with b1 b2)) <;> (show _∧_;omega)
    clear hG bd G1;go_wp2_with fail;refine Calls.mono C1.out ?_;rintro e u1 ⟨rfl,hg⟩;have L1:Hid (w.grownBy u1 none∧u1.heap[q6]? = some (Obj.cells #[.int .i64 0,.int .i64 0,.slice none 0 0] 46)∧u1.heap[q8]? = some (Obj.cells #[.int .i64 6,.int .i64 0,.slice none 0 0] 46)):=⟨gtr LI.out.1 hg,(hg.block _ (lbk LI.out.2.1) (by simp)).trans LI.out.2.1,(hg.block _ (lbk LI.out.2.2) (by simp)).trans LI.out.2.2⟩
    have hne:q6≠q8:=by have:=PQ.out;omega
    have ks:=gsc u1 q8 1 (.int .i64 n1);have L2:Hid (w.grownBy _ none∧_=some (Obj.cells #[.int .i64 0,.int .i64 0,.slice none 0 0] 46)∧_=some (Obj.cells #[.int .i64 6,.int .i64 n1,.slice none 0 0] 46)):=⟨grown_into L1.out.1 ks (by have:=PQ.out;omega),(ks.block _ (lbk L1.out.2.1) (by simp;omega)).trans L1.out.2.1,hsm u1 q8 1 _ _ _ L1.out.2.2⟩;obtain ⟨⟨y0,y1,y2⟩,f0,f1,f2⟩:=three L1.out.2.2;obtain ⟨⟨z0,z1,z2⟩,h0,h3,h4⟩:=three L2.out.2.1;clear hg C1 LI ks;simp only[];by_cases hx:x1 < 0
    ·
     have EN:Hid (rdR zs (pd+1) (pn:Int)=(0,0,.nil,-1)):=rdR_no (by rw[EH.out];unfold hdN;rw[HG.out];simp [hx]);have FQ:Hid _:=ZR.out _ L2.out.1 L2.out.2.1;clear ZR HG BD L1 L2 EH HR;go_wp2
     (try simp only[Exit.inBlock,Exit.then])
     refine bodyPost_ret (results_cell2 (P:=Tryz.prog) Tryz.results52 _ _ q6 _ _ _ _ rfl FQ.out.1 Tryz.underlying46 rfl (by kernel_rfl)) rfl ?_;rw[EN.out];exact ⟨none,0,0,[],rfl,FQ.out.2,New.nil _ _ _⟩
    have C2:Hid _:=specGet2 (some ⟨b,off,none⟩) N cap zs x1 _ (HR.out.none L2.out.1) hz (by omega) (by have:=BD.out;omega);have bd:=getNum_bounds zs hz x1;have EX:Hid (∃ n2 x2,getNum zs x1=(n2,x2)):=⟨_,_,rfl⟩;obtain ⟨n2,x2,hG⟩:=EX.out;clear EX;rw[hG] at C2 bd;simp only[] at C2 bd;have HG2:Hid (getNum zs x1=(n2,x2)):=hG
    have BD2:Hid (0≤n2):=by rcases bd with bd|bd <;> (try (injection bd with b1 b2)) <;> (show _≤_;omega)
    clear hG bd;go_wp2_with fail;refine Calls.mono C2.out ?_;rintro e u2 ⟨rfl,hg⟩;have L3:Hid (w.grownBy u2 none∧u2.heap[q6]? = some (Obj.cells #[.int .i64 0,.int .i64 0,.slice none 0 0] 46)∧u2.heap[q8]? = some (Obj.cells #[.int .i64 6,.int .i64 n1,.slice none 0 0] 46)):=⟨gtr L2.out.1 hg,(hg.block _ (lbk L2.out.2.1) (by simp)).trans L2.out.2.1,(hg.block _ (lbk L2.out.2.2) (by simp)).trans L2.out.2.2⟩;clear hg C2 L1 L2 y0 y1 y2 f0 f1 f2 z0 z1 z2 h0 h3 h4;obtain ⟨⟨z0,z1,z2⟩,h0,h3,h4⟩:=three L3.out.2.1;obtain ⟨nn2,rfl⟩:∃ nn2:Nat,n2=(nn2:Int):=⟨n2.toNat,by have:=BD2.out;omega⟩;simp only[];by_cases hx2:x2 < 0
    ·
     have EN:Hid (rdR zs (pd+1) (pn:Int)=(0,0,.nil,-1)):=rdR_no (by rw[EH.out];unfold hdN;rw[HG.out];simp only[];rw[HG2.out];simp [hx2]);have FQ:Hid _:=ZR.out _ L3.out.1 L3.out.2.1;clear ZR HG BD HG2 BD2 L3 EH HR;go_wp2
     (try simp only[Exit.inBlock,Exit.then])
     refine bodyPost_ret (results_cell2 (P:=Tryz.prog) Tryz.results52 _ _ q6 _ _ _ _ rfl FQ.out.1 Tryz.underlying46 rfl (by kernel_rfl)) rfl ?_;rw[EN.out];exact ⟨none,0,0,[],rfl,FQ.out.2,New.nil _ _ _⟩
    by_cases hc3:(3:Int) < nn2
    ·
     have EN:Hid (rdR zs (pd+1) (pn:Int)=(0,0,.nil,-1)):=rdR_no (by rw[EH.out];unfold hdN;rw[HG.out];simp only[];rw[HG2.out];simp;omega);have FQ:Hid _:=ZR.out _ L3.out.1 L3.out.2.1;clear ZR HG BD HG2 BD2 L3 EH HR;go_wp2
     (try simp only[Exit.inBlock,Exit.then])
     refine bodyPost_ret (results_cell2 (P:=Tryz.prog) Tryz.results52 _ _ q6 _ _ _ _ rfl FQ.out.1 Tryz.underlying46 rfl (by kernel_rfl)) rfl ?_;rw[EN.out];exact ⟨none,0,0,[],rfl,FQ.out.2,New.nil _ _ _⟩
    have HH:Hid (hdN zs 6 ((pn:Int)+1)=some (6,n1,nn2,x2)):=by show _=_;unfold hdN;rw[HG.out];simp only[];rw[HG2.out];simp;omega
    clear ZR HG BD HG2 BD2 EH HR;go_wp2;go_meet
    case rel=>exact ⟨n1,x2,nn2,rfl,rfl,HH,L3⟩
   have EN:Hid (rdR zs (pd+1) (pn:Int)=(0,0,.nil,-1)):=rdR_no (by rw[EH.out];unfold hdN;rw[if_neg (by omega),if_neg (by omega),if_neg k5,if_neg k7,if_neg k6]);obtain ⟨⟨z0,z1,z2⟩,h0,h3,h4⟩:=three LI.out.2.1;have FQ:Hid _:=ZR.out _ LI.out.1 LI.out.2.1;clear ZR LI EH HR;go_wp2
   (try simp only[Exit.inBlock,Exit.then])
   refine bodyPost_ret (results_cell2 (P:=Tryz.prog) Tryz.results52 _ _ q6 _ _ _ _ rfl FQ.out.1 Tryz.underlying46 rfl (by kernel_rfl)) rfl ?_;rw[EN.out];exact ⟨none,0,0,[],rfl,FQ.out.2,New.nil _ _ _⟩
  case rest =>
   obtain ⟨n,nx,cc,rfl,rfl,HH,LC⟩:=hcut;have hbn:=hdN_bounds hz (by omega) (by omega) HH.out;simp only[] at hbn;obtain ⟨-,hc3,hx0,hx1⟩:=hbn;have ER:Hid (rdR zs (pd+1) (pn:Int)=match rdL (rdT zs pd) cc nx with|none=>(0,0,.nil,-1) | some y=>(k,n,y.1,y.2)):=rdR_head (EH.out.trans HH.out);generalize hL:rdL (rdT zs pd) cc nx=LR at *
   have HL:Hid (LR=appL .nil (rdL (rdT zs pd) cc nx)):=by show _=_;rw[appL_nil,hL]
   clear HH LI EH hL
   have dpp:(11:Int) - (pd:Int)=deep+1:=by have:=DP.out;omega
   rw[dpp] at IH
   have hdl:1≤deep:=by have:=DP.out;omega
   have hdu:deep≤10:=by omega
   clear dpp hdeep;obtain ⟨i0,hi,hz0,hz1,hz2⟩:=info_parts infoT;go_wp2
   go_loopw [1,10] (fun v i wr=>∃ (j:Nat) (P:F) (x:Int) (av:Option Addr) (cv:Nat) (bs:List Nat),j≤cc∧i = .int .i64 j∧v = .int .i64 x∧0≤x∧x≤N∧P.len=j∧Hid (LR=appL P (rdL (rdT zs pd) (cc - j) x))∧Hid (w.grownBy wr none∧wr.heap[q6]? = some (Obj.cells #[.int .i64 0,.int .i64 0,.slice none 0 0] 46)∧wr.heap[q8]? = some (Obj.cells #[.int .i64 k,.int .i64 n,.slice av j cv] 46)∧SlO wr 46 av j cv P bs∧bs.Nodup∧(∀ y ∈ bs,q8 < y)∧(cv=0→av=none))) (fun _ i _=>cc - (intOf i).toNat)
   case atStart=>exact ⟨0,.nil,nx,none,0,[],Nat.zero_le _,rfl,rfl,hx0,by omega,rfl,HL,LC.out.1,LC.out.2.1,LC.out.2.2,⟨rfl,by omega,by omega,.inl ⟨rfl,rfl⟩⟩,List.nodup_nil,fun y hy=>by simp at hy,fun _=>rfl⟩
   case round =>
    clear HL LC;obtain ⟨j,P,x,av,cv,bs,hj,rfl,rfl,hxx0,hxx1,hPl,HL,LI⟩:=hrel;by_cases hlt:j < cc
    ·
     have hlt':(j:Int) < (cc:Int):=by omega
     obtain ⟨r,hr⟩:∃ r,cc - j=r+1:=⟨cc - j - 1,by omega⟩;have CC:Hid _:=IH.out x wr (by have:=DP.out;omega) (HR.out.none LI.out.1) (by omega);go_wp2_with fail;refine Calls.mono CC.out ?_;rintro e u ⟨a2,l2,c2,bd,he,hg,hnew⟩;subst he;obtain ⟨g1,b6,b8,acc,nd,gt,na⟩:=LI.out;have hl8:=lbk b8;have LV:Hid (w.grownBy u none∧u.heap[q6]? = some (Obj.cells #[.int .i64 0,.int .i64 0,.slice none 0 0] 46)∧u.heap[q8]? = some (Obj.cells #[.int .i64 k,.int .i64 n,.slice av j cv] 46)∧SlO u 46 av j cv P bs∧SlO u 46 a2 l2 c2 (rdR zs pd x).2.2.1 bd∧(∀ y ∈ bd,q8 < y)∧(∀ y ∈ bs,y ∉ bd)∧bd.Nodup∧bs.Nodup∧(∀ y ∈ bs,q8 < y)∧(cv=0→av=none)):=⟨gtr g1 hg,(hg.block _ (lbk b6) (by simp)).trans b6,(hg.block _ hl8 (by simp)).trans b8,acc.old hg,hnew.1,fun y hy=>Nat.lt_of_lt_of_le hl8 (hnew.2.2 y hy),fun y hy hy2=>by have:=acc.lt y hy;have:=hnew.2.2 y hy2;omega,hnew.2.1,nd,gt,na⟩;have lt8:q8 < u.heap.size:=lbk LV.out.2.2.1
     have lt6:q6 < u.heap.size:=lbk LV.out.2.1
     have n68:q6≠q8:=by have:=PQ.out;omega
     clear hg hnew CC g1 b6 b8 acc hl8 LI nd gt na IH
     cases hT:rdT zs pd x with
     | none =>
      have eR:rdR zs pd x=(0,0,.nil,-1):=by unfold rdR;rw[hT]
      have hLR:LR=none:=by rw[HL.out,hr];exact appL_none hT
      have EN:Hid (rdR zs (pd+1) (pn:Int)=(0,0,.nil,-1)):=by show _=_;rw[ER.out,hLR]
      rw[eR];obtain ⟨⟨z0,z1,z2⟩,h0,h3,h4⟩:=three LV.out.2.1;obtain ⟨d1,k1⟩:=ZR.out u LV.out.1 LV.out.2.1;have ga:=gal (((u.setCell ⟨q6,0,none⟩ (.int .i64 0)).setCell ⟨q6,1,none⟩ (.int .i64 0)).setCell ⟨q6,2,none⟩ (.slice none 0 0)) (.cells #[.int .i64 0,.int .i64 0,.slice a2 l2 c2] 46) none;have FQ:Hid _:=And.intro ((ga.block _ (lbk d1) (by simp)).trans d1) (gtr k1 ga);clear ga d1 k1 hT eR hLR HL ER ZR HR LV hi hz0 hz1 hz2;simp only[];go_wp2
      (try simp only[Exit.inBlock,Exit.then])
      refine bodyPost_ret (results_cell2 (P:=Tryz.prog) Tryz.results52 _ _ q6 _ _ _ _ rfl FQ.out.1 Tryz.underlying46 rfl (by kernel_rfl)) rfl ?_;rw[EN.out];exact ⟨none,0,0,[],rfl,FQ.out.2,New.nil _ _ _⟩
     | some y =>
      have eR:rdR zs pd x=y:=by unfold rdR;rw[hT]
      have hyb:=rdT_bounds hz pd x y hT
      have HL2:Hid (LR=appL (P.app (.cons y.1 y.2.1 y.2.2.1 .nil)) (rdL (rdT zs pd) r y.2.2.2)):=by show _=_;rw[HL.out,hr];exact appL_some hT
      rw[eR] at LV ⊢;obtain ⟨rk,rn,rd,x'⟩:=y;simp only[] at LV HL2 hyb ⊢;obtain ⟨hy0,hy1⟩:=hyb;have gA:=gal u (.cells #[.int .i64 rk,.int .i64 rn,.slice a2 l2 c2] 46) none;have gB:=gal (u.alloc (.cells #[.int .i64 rk,.int .i64 rn,.slice a2 l2 c2] 46)) (.cells #[.int .i64 rk,.int .i64 rn,.slice a2 l2 c2] 46) none;have gAB:=gtr gA gB;have bB:=three (hnw (u.alloc (.cells #[.int .i64 rk,.int .i64 rn,.slice a2 l2 c2] 46)) (.cells #[.int .i64 rk,.int .i64 rn,.slice a2 l2 c2] 46))
      have esz:(u.alloc (.cells #[.int .i64 rk,.int .i64 rn,.slice a2 l2 c2] 46)).heap.size=u.heap.size+1:=by simp
      rw[esz] at bB;obtain ⟨g1,b6,b8,acc,kid,gtk,dis,ndk,nd,gt,na⟩:=LV.out;have AC:Hid (SlO ((u.alloc (.cells #[.int .i64 rk,.int .i64 rn,.slice a2 l2 c2] 46)).alloc (.cells #[.int .i64 rk,.int .i64 rn,.slice a2 l2 c2] 46)) 46 av j cv P bs∧SlO ((u.alloc (.cells #[.int .i64 rk,.int .i64 rn,.slice a2 l2 c2] 46)).alloc (.cells #[.int .i64 rk,.int .i64 rn,.slice a2 l2 c2] 46)) 46 a2 l2 c2 rd bd∧bs.Nodup∧bd.Nodup∧(∀ y ∈ bs,y ∉ bd)∧(cv=0→av=none)):=⟨acc.old gAB,kid.old gAB,nd,ndk,dis,na⟩;have NW:Hid _:=news3 bB.1.1 bB.1.2.1 bB.1.2.2
      have FB:Hid (∀ u3,Tn ((u.alloc (.cells #[.int .i64 rk,.int .i64 rn,.slice a2 l2 c2] 46)).alloc (.cells #[.int .i64 rk,.int .i64 rn,.slice a2 l2 c2] 46)) u3 bs→w.grownBy u3 none∧u3.heap[q6]? = some (Obj.cells #[.int .i64 0,.int .i64 0,.slice none 0 0] 46)∧u3.heap[q8]? = some (Obj.cells #[.int .i64 k,.int .i64 n,.slice av j cv] 46)):=by
       intro u3 ht;have q1:=(gAB.block _ lt6 (by simp)).trans b6;have q2:=(gAB.block _ lt8 (by simp)).trans b8;exact ⟨Tn.fresh (gtr g1 gAB) ht (fun y hy=>by have:=gt y hy;have:=PQ.out;omega),(ht.block _ (lbk q1) (fun hy=>by have:=gt _ hy;have:=PQ.out;omega)).trans q1,(ht.block _ (lbk q2) (fun hy=>by have:=gt _ hy;omega)).trans q2⟩
      have GT:Hid ((∀ y ∈ bs,q8 < y)∧(∀ y ∈ bd,q8 < y)∧q8 < ((u.alloc (.cells #[.int .i64 rk,.int .i64 rn,.slice a2 l2 c2] 46)).alloc (.cells #[.int .i64 rk,.int .i64 rn,.slice a2 l2 c2] 46)).heap.size):=⟨gt,gtk,by simp;omega⟩;obtain ⟨⟨z0,z1,z2⟩,-⟩:=three b8;clear hT eR HL LV gA gB gAB bB esz g1 b6 b8 acc kid gtk dis ndk nd gt na ZR
      have hjl:j≤100000:=by omega
      go_wp2_with (at_builtin;go_must (refine wpList_pushT rfl (.tmp 93) (.tmp 95) 43 rfl 46 i0 _ Tryz.underlying43 hi hz0 hz1 hz2 rfl av j cv P bs rfl AC.out.1 AC.out.2.2.1 AC.out.2.2.2.2.2 hjl ⟨u.heap.size+1,0,none⟩ rfl rk rn a2 l2 c2 NW.out rd bd AC.out.2.1 AC.out.2.2.2.1 AC.out.2.2.2.2.1 ?_);intro a3 c3 bs3 u3 h1 h2 h3 h4 h5;obtain ⟨⟨v0,v1,v2⟩,f0,f1,f2⟩:=three (FB.out u3 h4).2.2);have ks:=gsc u3 q8 2 (.slice a3 (j+1) c3);obtain ⟨g3,b63,b83⟩:=FB.out u3 h4
      have hgt:∀ y ∈ bs3,q8 < y:=fun y hy=>by
       rcases h3 y hy with hy|hy|hy
       ·
        exact GT.out.1 y hy
       ·
        exact GT.out.2.1 y hy
       ·
        have:=GT.out.2.2;omega
      have LN:Hid (w.grownBy (u3.setCell ⟨q8,2,none⟩ (.slice a3 (j+1) c3)) none∧(u3.setCell ⟨q8,2,none⟩ (.slice a3 (j+1) c3)).heap[q6]? = some (Obj.cells #[.int .i64 0,.int .i64 0,.slice none 0 0] 46)∧(u3.setCell ⟨q8,2,none⟩ (.slice a3 (j+1) c3)).heap[q8]? = some (Obj.cells #[.int .i64 k,.int .i64 n,.slice a3 (j+1) c3] 46)∧SlO (u3.setCell ⟨q8,2,none⟩ (.slice a3 (j+1) c3)) 46 a3 (j+1) c3 (P.app (.cons rk rn rd .nil)) bs3∧bs3.Nodup∧(∀ y ∈ bs3,q8 < y)∧(c3=0→a3=none)):=⟨grown_into g3 ks (by have:=PQ.out;omega),(ks.block _ (lbk b63) (by simp;omega)).trans b63,hsm u3 q8 2 _ _ _ b83,h1.kept ks (fun y hy=>by have:=hgt y hy;simp;omega),h2,hgt,fun h=>by omega⟩;have hlen:(P.app (.cons rk rn rd .nil)).len=j+1:=h1.1
      have hcr:cc - (j+1)=r:=by omega
      clear ks g3 b63 b83 hgt h1 h2 h3 h4 FB GT NW AC;go_roundw
      case rel=>exact ⟨j+1,P.app (.cons rk rn rd .nil),x',a3,c3,bs3,by omega,by go_num,rfl,by omega,by omega,hlen,by rw[hcr];exact HL2,LN⟩
      case measure=>simp [intOf];omega
    ·
     obtain rfl:j=cc:=by omega
     obtain ⟨g1,b6,b8,acc,nd,gt,na⟩:=LI.out
     have hLR:LR=some (P,x):=by rw[HL.out,Nat.sub_self];simp [rdL,appL,F.app_nil]
     have EN:Hid (rdR zs (pd+1) (pn:Int)=(k,n,P,x)):=by show _=_;rw[ER.out,hLR]
     obtain ⟨⟨z0,z1,z2⟩,h0,h3,h4⟩:=three b6;obtain ⟨⟨y0,y1,y2⟩,f0,f1,f2⟩:=three b8;obtain ⟨d1,k1⟩:=fill3 (.int .i64 k) (.int .i64 n) (.slice av j cv) b6;have FQ:Hid (_∧w.grownBy _ none∧New w _ 46 av j cv P bs):=⟨d1,grown_into g1 k1 (by have:=PQ.out;omega),acc.kept k1 (fun y hy=>by have:=gt y hy;have:=PQ.out;simp;omega),nd,fun y hy=>by have:=gt y hy;have:=PQ.out;omega⟩;clear g1 b6 b8 acc nd gt na hLR HL ER d1 k1 LI IH HR ZR;go_wp2
     (try simp only[Exit.inBlock,Exit.then])
     refine bodyPost_ret (results_cell2 (P:=Tryz.prog) Tryz.results52 _ _ q6 _ _ _ _ rfl FQ.out.1 Tryz.underlying46 rfl (by kernel_rfl)) rfl ?_;rw[EN.out];exact ⟨av,j,cv,bs,rfl,FQ.out.2.1,FQ.out.2.2⟩
end Go.Proofs.YtnmlbeefjjohfaaGreatDoor.By
