/-
  No statement is proved here.
-/
import Derived.Test.YtnmlbeefjjohfaaGreatDoorTRdRSh
import Derived.Laws.CopyOwn
namespace Go.Proofs.YtnmlbeefjjohfaaGreatDoor.By
set_option maxRecDepth 100000
set_option maxHeartbeats 16000000
open Go.RowKit
set_option linter.unusedVariables false
set_option linter.unusedSimpArgs false
theorem implTyReadT (a:Option Addr) (N cap:Nat) (zs:List Int) (hz:Byt zs) (hN:N≤1048576) (p:Int) (w:World) (h:Reads w a N zs) (hp:p≤9223372036854775807) :
  Calls Tryz.prog 82 #[.slice a N cap,.int .i64 p] w fun e u=>RdP w (readV zs p) e u:=by
 have gA:=gal w (.cells #[.int .i64 0,.int .i64 0,.slice none 0 0] 46) none;have gB:=gal (w.alloc (.cells #[.int .i64 0,.int .i64 0,.slice none 0 0] 46)) (.cells #[.slice a N cap,.int .i64 p,.int .i64 60] 128) none;have g2:=gtr gA gB;have bA:=(gB.block _ (by simp) (by simp)).trans (hnw w (.cells #[.int .i64 0,.int .i64 0,.slice none 0 0] 46));have bB:=hnw (w.alloc (.cells #[.int .i64 0,.int .i64 0,.slice none 0 0] 46)) (.cells #[.slice a N cap,.int .i64 p,.int .i64 60] 128)
 have esz:(w.alloc (.cells #[.int .i64 0,.int .i64 0,.slice none 0 0] 46)).heap.size=w.heap.size+1:=by simp
 have esz2:((w.alloc (.cells #[.int .i64 0,.int .i64 0,.slice none 0 0] 46)).alloc (.cells #[.slice a N cap,.int .i64 p,.int .i64 60] 128)).heap.size=w.heap.size+2:=by simp
 rw[esz] at bB
 have hq:0 < N→∀ b off,a=some (⟨b,off,none⟩:Addr)→b≠w.heap.size+1:=by
  intro h0 b off hab;rcases h.2 with h1|⟨b',off',hab',hc⟩
  ·
   omega
  ·
   rw[hab] at hab';injection hab' with e1;injection e1 with e1 e2 e3;have hlt:b' < w.heap.size:=block_lt_of_cell (hc 0 h0);omega
 have CC:Hid _:=readT (w.heap.size+1) a N cap zs hz hN hq 10 60 p _ (Nat.le_refl _) (Nat.le_refl _) bB (fun u hu=>h.none (grown_into g2 hu (by omega))) hp;have L0:Hid (w.grownBy _ none∧_=some (Obj.cells #[.int .i64 0,.int .i64 0,.slice none 0 0] 46)∧_=w.heap.size+2):=⟨g2,bA,esz2⟩;have ER:=rI_read zs p;clear gA gB g2 bA bB esz esz2 h hq;go_enter Tryz.func82,Tryz.ntmps82;go_wp2_with fail;refine Calls.mono CC.out ?_;rintro e u ⟨k,n,f,a2,l2,c2,bd,x,rm,ok,he,hg,hb,hnew,hok,hno⟩;subst he;obtain ⟨g2,b4,sz⟩:=L0.out;have LV:Hid (w.grownBy u none∧u.heap[w.heap.size+1]? = some (Obj.cells #[.slice a N cap,.int .i64 x,.int .i64 rm] 128)∧u.heap[w.heap.size]? = some (Obj.cells #[.int .i64 0,.int .i64 0,.slice none 0 0] 46)∧SlO u 46 a2 l2 c2 f bd∧bd.Nodup∧(∀ y ∈ bd,w.heap.size+1 < y)):=⟨grown_into g2 hg (by omega),hb,(hg.block _ (lbk b4) (by simp)).trans b4,hnew.1,hnew.2.1,fun y hy=>by have:=hnew.2.2 y hy;omega⟩
 clear L0 g2 b4 sz hg hb hnew CC;generalize ep:w.heap.size=q4 at *;simp only[];obtain ⟨g1,br,b4,acc,nd,gt⟩:=LV.out;have lt4:=lbk b4;have ltq:=lbk br
 cases ok with
 | false =>
  have EN:Hid (readV zs p=(0,0,.nil,-1)):=by show _=_;rw[ER,hno rfl]
  obtain ⟨⟨z0,z1,z2⟩,h0,h3,h4⟩:=three b4;obtain ⟨d1,k1⟩:=fill3 (.int .i64 0) (.int .i64 0) (.slice none 0 0) b4;have ga:=gal (((u.setCell ⟨q4,0,none⟩ (.int .i64 0)).setCell ⟨q4,1,none⟩ (.int .i64 0)).setCell ⟨q4,2,none⟩ (.slice none 0 0)) (.cells #[.int .i64 k,.int .i64 n,.slice a2 l2 c2] 46) none;have FQ:Hid (_∧w.grownBy _ none):=⟨(ga.block _ (lbk d1) (by simp)).trans d1,gtr (grown_into g1 k1 (by omega)) ga⟩;clear ga d1 k1 LV g1 br b4 acc nd gt hok hno ER;go_wp2
  (try simp only[Exit.inBlock,Exit.then])
  refine bodyPost_ret (results_cell2 (P:=Tryz.prog) Tryz.results82 _ _ q4 _ _ _ _ rfl FQ.out.1 Tryz.underlying46 rfl (by kernel_rfl)) rfl ?_;rw[EN.out];exact ⟨none,0,0,[],rfl,FQ.out.2,New.nil _ _ _⟩
 | true =>
  obtain ⟨m,rfl,hm,hT⟩:=hok rfl
  have EN:Hid (readV zs p=(k,n,f,x)):=by show _=_;rw[ER,hT]
  have ga:=gal u (.cells #[.int .i64 k,.int .i64 n,.slice a2 l2 c2] 46) none;have gd:=grown_drew ga;have gd2:(u.alloc (.cells #[.int .i64 k,.int .i64 n,.slice a2 l2 c2] 46)).grownBy (u.alloc (.cells #[.int .i64 k,.int .i64 n,.slice a2 l2 c2] 46)).drew none:=grown_drew (grf _ none);have L1:Hid (w.grownBy (u.alloc (.cells #[.int .i64 k,.int .i64 n,.slice a2 l2 c2] 46)).drew none∧(u.alloc (.cells #[.int .i64 k,.int .i64 n,.slice a2 l2 c2] 46)).drew.heap[q4+1]? = some (Obj.cells #[.slice a N cap,.int .i64 x,.int .i64 (m:Int)] 128)∧(u.alloc (.cells #[.int .i64 k,.int .i64 n,.slice a2 l2 c2] 46)).drew.heap[q4]? = some (Obj.cells #[.int .i64 0,.int .i64 0,.slice none 0 0] 46)∧(u.alloc (.cells #[.int .i64 k,.int .i64 n,.slice a2 l2 c2] 46)).drew.heap[u.heap.size]? = some (Obj.cells #[.int .i64 k,.int .i64 n,.slice a2 l2 c2] 46)∧SlO (u.alloc (.cells #[.int .i64 k,.int .i64 n,.slice a2 l2 c2] 46)).drew 46 a2 l2 c2 f bd):=⟨gtr g1 gd,(gd.block _ ltq (by simp)).trans br,(gd.block _ lt4 (by simp)).trans b4,(gd2.block _ (by simp) (by simp)).trans (hnw u _),acc.old gd⟩
  have NG:Hid (bd.Nodup∧∀ y ∈ bd,q4+1 < y):=⟨nd,gt⟩
  have n4:q4≠u.heap.size:=by omega
  clear ga gd gd2 LV g1 br b4 acc nd gt hok hno ER;go_wp2;refine wp_region_held_drew (S:=(fun u0=>Tri u.heap.size 0 (.int .i64 k) (.int .i64 n) (.slice a2 l2 c2) u0∧Tri (q4+1) 0 (.slice a N cap) (.int .i64 x) (.int .i64 (m:Int)) u0)) (by kernel_rfl) ⟨(three L1.out.2.2.2.1).1,(three L1.out.2.1).1⟩ (fun hH=>?_);generalize (World.drew _)=u0 at *;simp only[sA9,lB,lC,Nat.reduceAdd,Array.replicate,List.replicate];refine tk 0 ?_;refine tk 1 ?_;refine tk 2 ?_;obtain ⟨g1,br,b4,b7,acc⟩:=L1.out;obtain ⟨d2,k2⟩:=fill3 (.int .i64 k) (.int .i64 n) (.slice a2 l2 c2) b4;obtain ⟨⟨y0,y1,y2⟩,f0,f1,f2⟩:=three b4;have FQ:Hid (_∧w.grownBy _ none∧New w _ 46 a2 l2 c2 f bd∧_∧_):=⟨d2,grown_into g1 k2 (by omega),⟨acc.kept k2 (fun y hy=>by have:=NG.out.2 y hy;simp;omega),NG.out.1,fun y hy=>by have:=NG.out.2 y hy;omega⟩,(k2.block _ (lbk b7) (by simp;omega)).trans b7,(k2.block _ (lbk br) (by simp)).trans br⟩;clear d2 k2
  refine rd 3 rfl (fun K hK=>?_);go_simp;refine hK.out _ _ ⟨(three FQ.out.2.2.2.1).1,(three FQ.out.2.2.2.2).1⟩ (fun hH2=>?_);clear hK K hH;have hH:=hH2;clear hH2 y0 y1 y2 f0 f1 f2;simp only[Act.put,nA,nB,nC,nD,nE,nF];refine tk 4 ?_;refine wpAnyH_done (by kernel_rfl) ?_ _;clear hH;go_wp2
  (try simp only[Exit.inBlock,Exit.then])
  refine bodyPost_ret (results_cell2 (P:=Tryz.prog) Tryz.results82 _ _ q4 _ _ _ _ rfl FQ.out.1 Tryz.underlying46 rfl (by kernel_rfl)) rfl ?_;rw[EN.out];exact ⟨a2,l2,c2,bd,rfl,FQ.out.2.1,FQ.out.2.2.1⟩
def putF:Nat→Nat→List Int
 | 0,n=>[(n:Int)]
 | f+1,n=>if n≤127 then [(n:Int)] else ((n % 128+128:Nat):Int)::putF f (n / 128)
def putB (n:Nat):List Int:=putF n n
theorem putF_same:∀ (f g n:Nat),n≤f→n≤g→putF f n=putF g n:=by
 intro f
 induction f with
 | zero =>
  intro g n hf hg
  obtain rfl:n=0:=by omega
  cases g with
  | zero=>rfl
  | succ g=>rw[putF,putF,if_pos (by omega)]
 | succ f ih =>
  intro g n hf hg
  cases g with
  | zero =>
   obtain rfl:n=0:=by omega
   rw[putF,putF,if_pos (by omega)]
  | succ g =>
   rw[putF,putF];by_cases h:n≤127
   ·
    rw[if_pos h,if_pos h]
   ·
    rw[if_neg h,if_neg h,ih g (n / 128) (by omega) (by omega)]
theorem putB_small {n:Nat} (h:n≤127):putB n=[(n:Int)]:=by
 unfold putB
 cases n with
 | zero=>rfl
 | succ n=>rw[putF,if_pos h]
theorem putB_more {n:Nat} (h:127 < n):putB n=((n % 128+128:Nat):Int)::putB (n / 128):=by
 unfold putB;obtain ⟨k,rfl⟩:∃ k,n=k+1:=⟨n - 1,by omega⟩;rw[putF,if_neg (by omega),putF_same k ((k+1) / 128) ((k+1) / 128) (by omega) (Nat.le_refl _)]
theorem vals_one (zs:List Int):∀ v ∈ vals zs,v.oneCell' = true:=ints_oneCell .u8 zs
theorem vals_get {w:World} {b off n:Nat} {zs:List Int} (hl:zs.length=n) (hc:∀ i,i < n→w.cell? ⟨b,off+i,none⟩=some (.int .u8 (zs.getD i 0))):∀ j v,(vals zs)[j]? = some v→w.cell? ((⟨b,off,none⟩:Addr).add j)=some v:=by
 intro j v hj
 have hj':j < n:=by
  have:=(List.getElem?_eq_some_iff.1 hj).1;simpa [vals,hl] using this
 have h:=hc j hj'
 have e:((⟨b,off,none⟩:Addr).add j)=⟨b,off+j,none⟩:=by
  by_cases h0:j=0
  ·
   subst h0;simp [Addr.add]
  ·
   simp [Addr.add,h0]
 rw[e,h,← hj];simp [vals,List.getD_eq_getElem?_getD,List.getElem?_eq_getElem (show j < zs.length by omega)]
theorem splice_two (n m:Nat) (zs ys:List Int) (hz:zs.length=n) (hy:ys.length=m) :
  splice (splice (vals (List.replicate (n+m) 0)) 0 (vals zs)) n (vals ys)=vals (zs++ys):=by
 have h1:(vals zs).length=n:=by simp [vals,hz]
 have h2:(vals ys).length=m:=by simp [vals,hy]
 have e:splice (vals (List.replicate (n+m) 0)) 0 (vals zs)=vals zs++(vals (List.replicate (n+m) 0)).drop n:=by simp [splice,h1]
 rw[e];unfold splice;rw[List.take_append_of_le_length (by omega),List.take_of_length_le (by omega),h2,List.drop_append,List.drop_of_length_le (by omega),h1];simp [vals]
theorem grown_of_below {w w':World} (h:Below w.heap.size w w'):w.grownBy w' none:=⟨h.os,h.tape,h.output,h.size,fun k hk _=>h.block k hk⟩
theorem size1:(Tryz.prog.info? 5).map (·.size)=some 1:=by kernel_rfl
theorem made_is (n:Nat):madeCells #[.int .u8 0] n=(vals (List.replicate n 0)).toArray:=by
 apply Array.ext';rw[toList_madeCells_one];simp [vals]
theorem src_of {w w':World} {a:Option Addr} {n:Nat} {zs:List Int} (h:Reads w a n zs) (hb:Below w.heap.size w w'):0 < (vals zs).length→∃ ad,a=some ad∧∀ j v,(vals zs)[j]? = some v→w'.cell? (ad.add j)=some v:=by
 intro hp;obtain ⟨hl,h⟩:=h.below hb;rcases h with h|⟨b,off,rfl,hc⟩
 ·
  simp [vals] at hp;omega
 ·
  exact ⟨_,rfl,vals_get hl hc⟩
theorem row_of {w:World} {g n:Nat} {zs:List Int} (h:w.heap[g]? = some (.cells (vals zs).toArray 5 (0,0))) (hl:zs.length=n):Row w g n zs :=
 ⟨_,h,by simp [vals,hl],by rw[List.take_of_length_le (by simp [vals])],by omega⟩
theorem joinedT (a a':Option Addr) (n m cap cap':Nat) (zs ys:List Int) (w:World) (h:Reads w a n zs) (h':Reads w a' m ys) (hn:n≤2000000) (hm:m≤2000000) :
  Calls Tryz.prog 110 #[.slice a n cap,.slice a' m cap'] w fun e w'=>∃ g,e = .returned (.slice (some ⟨g,0,none⟩) (n+m) (n+m))∧w.grownBy w' none∧w.heap.size≤g∧Row w' g (n+m) (zs++ys):=by
 have hsz:=fun w' (hb:Below w.heap.size w w')=>src_of h hb
 have hsy:=fun w' (hb:Below w.heap.size w w')=>src_of h' hb
 have hl:=h.1;have hl':=h'.1;clear h h';have hmk:=make_run (n+m) (by omega)
 have ec:((n+m:Nat):Int)=(n:Int)+(m:Int):=by omega
 rw[ec,made_is] at hmk;have HE:Hid (splice (splice (vals (List.replicate (n+m) 0)) 0 (vals zs)) n (vals ys)=vals (zs++ys)):=splice_two n m zs ys hl hl'
 have hzl:(vals zs).length=n:=by simp [vals,hl]
 have hyl:(vals ys).length=m:=by simp [vals,hl']
 have hol:(vals (List.replicate (n+m) 0)).length=n+m:=by simp [vals]
 have hz1:=vals_one zs;have hy1:=vals_one ys
 have HL:Hid ((zs++ys).length=n+m):=by show _=_;simp [hl,hl']
 generalize hZ:vals zs=Z at *;generalize hY:vals ys=Y at *;generalize hO:vals (List.replicate (n+m) 0)=O at *;have HZ:Hid (n=Z.length):=hzl.symm;have HY:Hid (m=Y.length):=hyl.symm;have HO:Hid (O.length=n+m):=hol;have HZ1:Hid (∀ v ∈ Z,v.oneCell' = true):=hz1;have HY1:Hid (∀ v ∈ Y,v.oneCell' = true):=hy1;have HSZ:Hid (∀ w',Below w.heap.size w w'→0 < Z.length→∃ ad,a=some ad∧∀ j v,Z[j]? = some v→w'.cell? (ad.add j)=some v):=hsz;have HSY:Hid (∀ w',Below w.heap.size w w'→0 < Y.length→∃ ad,a' = some ad∧∀ j v,Y[j]? = some v→w'.cell? (ad.add j)=some v):=hsy;clear ec hzl hyl hol hz1 hy1 hsz hsy hl hl' hZ hY hO;have hb0:Below w.heap.size w (w.alloc (.cells O.toArray 5)):=(Below.refl _ _).alloc (Nat.le_refl _) _;have HB0:Hid (Below w.heap.size w (w.alloc (.cells O.toArray 5))):=hb0;clear hb0
 have c1:Z.length=Nat.min n (n+m):=by have:=HZ.out;rw[← this];exact (Nat.min_eq_left (by omega)).symm
 have c2:0+Z.length≤O.length:=by have:=HZ.out;have:=HO.out;omega
 have C1:Hid (Z.length=Nat.min n (n+m)):=c1;have C2:Hid (0+Z.length≤O.length):=c2;clear c1 c2
 have D3:Hid (n+Y.length≤(splice O 0 Z).length):=by
  have h1:=length_splice O 0 Z C2.out;have:=HO.out;have:=HY.out
  show _≤_
  rw[h1];omega
 by_cases hm0:0 < m
 ·
  go_enter Tryz.func110,Tryz.ntmps110
  go_wp2_with (first
   | (refine wpList_copy_splice rfl (.tmp 12) (.tmp 13) 22 22 rfl 5 Tryz.underlying22 size1 _ _ _ _ _ _ rfl rfl w.heap.size 0 O 5 (hnw w _) Z C1.out (fun hp=>⟨rfl,HSZ.out _ HB0.out hp⟩) C2.out HZ1.out w.heap.size w HB0.out (Nat.le_refl _) ?_;intro w2 HG2 hB2)
   | (refine wpList_copy_splice rfl (.tmp 18) (.tmp 19) 22 22 rfl 5 Tryz.underlying22 size1 _ _ _ _ _ _ rfl rfl w.heap.size n (splice O 0 Z) 5 HG2.out Y ?d1 ?d2 D3.out HY1.out w.heap.size w hB2 (Nat.le_refl _) ?d3))
  case d1=>have:=HY.out;rw[← this];first|exact (Nat.min_self _).symm | (simp;omega)
  case d2=>exact HSY.out _ hB2
  case d3 =>
   intro w3 HG3 hB3;go_wp2;go_ret;refine ⟨_,rfl,grown_of_below hB3,Nat.le_refl _,row_of ?_ HL.out⟩;have:=HG3.out;rwa [HE.out] at this
 ·
  go_enter Tryz.func110,Tryz.ntmps110
  go_wp2_with (first
   | (refine wpList_copy_splice rfl (.tmp 12) (.tmp 13) 22 22 rfl 5 Tryz.underlying22 size1 _ _ _ _ _ _ rfl rfl w.heap.size 0 O 5 (hnw w _) Z C1.out (fun hp=>⟨rfl,HSZ.out _ HB0.out hp⟩) C2.out HZ1.out w.heap.size w HB0.out (Nat.le_refl _) ?_;intro w2 HG2 hB2)
   | (refine wpList_copy_splice rfl (.tmp 18) (.tmp 19) 22 22 rfl 5 Tryz.underlying22 size1 _ _ _ _ _ _ rfl rfl w.heap.size n (splice O 0 Z) 5 HG2.out Y ?d1 ?d2 D3.out HY1.out w.heap.size w hB2 (Nat.le_refl _) ?d3))
  case d1=>have:=HY.out;rw[← this];first|exact (Nat.min_self _).symm | (simp;omega)
  case d2=>exact fun hp=>absurd hp (by have:=HY.out;omega)
  case d3 =>
   intro w3 HG3 hB3;go_wp2;go_ret;obtain ⟨k,hk⟩:∃ k,k=n+m:=⟨_,rfl⟩
   have hk':k=n:=by omega
   rw[← hk];refine ⟨w.heap.size,by rw[hk'];rfl,grown_of_below hB3,Nat.le_refl _,row_of ?_ (HL.out.trans hk.symm)⟩;have:=HG3.out;rwa [HE.out] at this
theorem parts1 (n:Int) (w:World) (h0:0≤n) (h1:n < 128) :
  Calls Tryz.prog 111 #[.int .i64 n] w fun e w'=>e = .returned (.tuple #[.agg #[.int .u8 n,.int .u8 0,.int .u8 0,.int .u8 0,.int .u8 0],.int .i64 1])∧w.grownBy w' none:=by
 go_enter Tryz.func111,Tryz.ntmps111;go_wp2;refine wp_loop_rounds 1 ?_;rw[rounds_succ];go_wp2;exact bodyPost_ret (v:=.tuple #[.agg #[.int .u8 n,.int .u8 0,.int .u8 0,.int .u8 0,.int .u8 0],.int .i64 1]) (by simp [results,Tryz.results111,go_sem]) rfl ⟨rfl,gtr (gal _ _ _) (gal _ _ _)⟩
theorem parts2 (n:Int) (w:World) (h0:128≤n) (h1:n < 16384) :
  Calls Tryz.prog 111 #[.int .i64 n] w fun e w'=>e = .returned (.tuple #[.agg #[.int .u8 (n % 128+128),.int .u8 (n / 128),.int .u8 0,.int .u8 0,.int .u8 0],.int .i64 2])∧w.grownBy w' none:=by
 go_enter Tryz.func111,Tryz.ntmps111;go_wp2;refine wp_loop_rounds 2 ?_;rw[rounds_succ];go_wp2;rw[rounds_succ];go_wp2;exact bodyPost_ret (v:=.tuple #[.agg #[.int .u8 (n % 128+128),.int .u8 (n / 128),.int .u8 0,.int .u8 0,.int .u8 0],.int .i64 2]) (by simp [results,Tryz.results111,go_sem]) rfl ⟨rfl,gtr (gal _ _ _) (gal _ _ _)⟩
theorem parts3 (n:Int) (w:World) (h0:16384≤n) (h1:n < 2097152) :
  Calls Tryz.prog 111 #[.int .i64 n] w fun e w'=>e = .returned (.tuple #[.agg #[.int .u8 (n % 128+128),.int .u8 (n / 128 % 128+128),.int .u8 (n / 128 / 128),.int .u8 0,.int .u8 0],.int .i64 3])∧w.grownBy w' none:=by
 go_enter Tryz.func111,Tryz.ntmps111;go_wp2;refine wp_loop_rounds 3 ?_;rw[rounds_succ];go_wp2;rw[rounds_succ];go_wp2;rw[rounds_succ];go_wp2;exact bodyPost_ret (v:=.tuple #[.agg #[.int .u8 (n % 128+128),.int .u8 (n / 128 % 128+128),.int .u8 (n / 128 / 128),.int .u8 0,.int .u8 0],.int .i64 3]) (by simp [results,Tryz.results111,go_sem]) rfl ⟨rfl,gtr (gal _ _ _) (gal _ _ _)⟩
theorem parts4 (n:Int) (w:World) (h0:2097152≤n) (h1:n < 268435456) :
  Calls Tryz.prog 111 #[.int .i64 n] w fun e w'=>e = .returned (.tuple #[.agg #[.int .u8 (n % 128+128),.int .u8 (n / 128 % 128+128),.int .u8 (n / 128 / 128 % 128+128),.int .u8 (n / 128 / 128 / 128),.int .u8 0],.int .i64 4])∧w.grownBy w' none:=by
 go_enter Tryz.func111,Tryz.ntmps111;go_wp2;refine wp_loop_rounds 4 ?_;rw[rounds_succ];go_wp2;rw[rounds_succ];go_wp2;rw[rounds_succ];go_wp2;rw[rounds_succ];go_wp2;exact bodyPost_ret (v:=.tuple #[.agg #[.int .u8 (n % 128+128),.int .u8 (n / 128 % 128+128),.int .u8 (n / 128 / 128 % 128+128),.int .u8 (n / 128 / 128 / 128),.int .u8 0],.int .i64 4]) (by simp [results,Tryz.results111,go_sem]) rfl ⟨rfl,gtr (gal _ _ _) (gal _ _ _)⟩
theorem parts5 (n:Int) (w:World) (h0:268435456≤n) (h1:n≤2147483647) :
  Calls Tryz.prog 111 #[.int .i64 n] w fun e w'=>e = .returned (.tuple #[.agg #[.int .u8 (n % 128+128),.int .u8 (n / 128 % 128+128),.int .u8 (n / 128 / 128 % 128+128),.int .u8 (n / 128 / 128 / 128 % 128+128),.int .u8 (n / 128 / 128 / 128 / 128)],.int .i64 5])∧w.grownBy w' none:=by
 go_enter Tryz.func111,Tryz.ntmps111;go_wp2;refine wp_loop_rounds 5 ?_;rw[rounds_succ];go_wp2;rw[rounds_succ];go_wp2;rw[rounds_succ];go_wp2;rw[rounds_succ];go_wp2;rw[rounds_succ];go_wp2;exact bodyPost_ret (v:=.tuple #[.agg #[.int .u8 (n % 128+128),.int .u8 (n / 128 % 128+128),.int .u8 (n / 128 / 128 % 128+128),.int .u8 (n / 128 / 128 / 128 % 128+128),.int .u8 (n / 128 / 128 / 128 / 128)],.int .i64 5]) (by simp [results,Tryz.results111,go_sem]) rfl ⟨rfl,gtr (gal _ _ _) (gal _ _ _)⟩
def numB (N:Int):List Int:=if N < 0∨2147483647 < N then [] else putB N.toNat
theorem numB_out {N:Int} (h:N < 0∨2147483647 < N):numB N=[]:=by rw[numB,if_pos h]
theorem numB_in {N:Int} (h0:0≤N) (h1:N≤2147483647):numB N=putB N.toNat:=by rw[numB,if_neg (by omega)]
theorem putI {n:Int} (h0:0≤n) (h1:n < 128):putB n.toNat=[n]:=by
 rw[putB_small (by omega),Int.toNat_of_nonneg h0]
theorem putI_more {n:Int} (h0:128≤n):putB n.toNat=(n % 128+128)::putB (n / 128).toNat:=by
 rw[putB_more (by omega)]
 have e1:((n.toNat % 128+128:Nat):Int)=n % 128+128:=by omega
 have e2:n.toNat / 128=(n / 128).toNat:=by omega
 rw[e1,e2]
theorem partsT (n:Int) (w:World) (h0:0≤n) (h1:n≤2147483647) :
  Calls Tryz.prog 111 #[.int .i64 n] w fun e w'=>∃ (p0 p1 p2 p3 p4:Int) (c:Nat),e = .returned (.tuple #[.agg #[.int .u8 p0,.int .u8 p1,.int .u8 p2,.int .u8 p3,.int .u8 p4],.int .i64 c])∧[p0,p1,p2,p3,p4].take c=numB n∧1≤c∧c≤5∧w.grownBy w' none:=by
 rw[numB_in h0 h1];rcases (show n < 128∨(128≤n∧n < 16384)∨(16384≤n∧n < 2097152)∨(2097152≤n∧n < 268435456)∨268435456≤n by omega) with h|⟨h,h'⟩|⟨h,h'⟩|⟨h,h'⟩|h
 ·
  exact (parts1 n w h0 h).mono fun e w' ⟨he,hg⟩=>⟨_,_,_,_,_,1,he,by rw[putI h0 h];rfl,by omega,by omega,hg⟩
 ·
  exact (parts2 n w h h').mono fun e w' ⟨he,hg⟩=>⟨_,_,_,_,_,2,he,by rw[putI_more h,putI (by omega) (by omega)];rfl,by omega,by omega,hg⟩
 ·
  exact (parts3 n w h h').mono fun e w' ⟨he,hg⟩=>⟨_,_,_,_,_,3,he,by rw[putI_more (by omega),putI_more (by omega),putI (by omega) (by omega)];rfl,by omega,by omega,hg⟩
 ·
  exact (parts4 n w h h').mono fun e w' ⟨he,hg⟩=>⟨_,_,_,_,_,4,he,by rw[putI_more (by omega),putI_more (by omega),putI_more (by omega),putI (by omega) (by omega)];rfl,by omega,by omega,hg⟩
 ·
  exact (parts5 n w h h1).mono fun e w' ⟨he,hg⟩=>⟨_,_,_,_,_,5,he,by rw[putI_more (by omega),putI_more (by omega),putI_more (by omega),putI_more (by omega),putI (by omega) (by omega)];rfl,by omega,by omega,hg⟩
theorem reads_parts (w:World) (p0 p1 p2 p3 p4:Int) (c:Nat) (t:TypeId) (l:List Int) (hc:c≤5) (h:[p0,p1,p2,p3,p4].take c=l) :
  Reads (w.alloc (.cells #[.int .u8 p0,.int .u8 p1,.int .u8 p2,.int .u8 p3,.int .u8 p4] t)) (some ⟨w.heap.size,0,none⟩) c l:=by
 subst h;refine ⟨by simp;omega,.inr ⟨_,0,rfl,fun i hi=>?_⟩⟩;rw[List.getD_eq_getElem?_getD,List.getElem?_take_of_lt hi];have hh:=hnw w (.cells #[.int .u8 p0,.int .u8 p1,.int .u8 p2,.int .u8 p3,.int .u8 p4] t);rw[Nat.zero_add,cell_of_row _ _ i _ t (0,0) hh];rcases (show i=0∨i=1∨i=2∨i=3∨i=4 by omega) with rfl|rfl|rfl|rfl|rfl <;> rfl
theorem row_own {w:World} {B n:Nat} {v:Value} {zs:List Int} (h:w.ownsRow B 5 1 v n (vals zs)) (hv:v≠.slice none 0 0):∃ g cap,v = .slice (some ⟨g,0,none⟩) n cap∧B≤g∧Row w g cap zs∧zs.length=n∧cap≤maxLen:=by
 obtain ⟨hl,h⟩:=h;rcases h with ⟨h,_⟩|⟨g,cap,cur,rfl,hb,hg,hn,hm,hs,ht⟩
 ·
  exact absurd h hv
 ·
  have hz:zs.length=n:=by simpa [vals] using hl
  exact ⟨g,cap,rfl,hb,⟨cur,hg,by simpa using hs,by rw[hz];simpa using ht,by omega⟩,hz,hm⟩
theorem numB_len (N:Int):(numB N).length≤5:=by
 by_cases h:N < 0∨2147483647 < N
 ·
  rw[numB_out h];simp
 ·
  rw[numB_in (by omega) (by omega)];rcases (show N < 128∨(128≤N∧N < 16384)∨(16384≤N∧N < 2097152)∨(2097152≤N∧N < 268435456)∨268435456≤N by omega) with h|⟨h,h'⟩|⟨h,h'⟩|⟨h,h'⟩|h
  ·
   rw[putI (by omega) (by omega)];simp
  ·
   rw[putI_more (by omega),putI (by omega) (by omega)];simp
  ·
   rw[putI_more (by omega),putI_more (by omega),putI (by omega) (by omega)];simp
  ·
   rw[putI_more (by omega),putI_more (by omega),putI_more (by omega),putI (by omega) (by omega)];simp
  ·
   rw[putI_more (by omega),putI_more (by omega),putI_more (by omega),putI_more (by omega),putI (by omega) (by omega)];simp
theorem own_lt {w:World} {B n:Nat} {v:Value} {xs:List Value} (h:w.ownsRow B 5 1 v n xs):∀ k,v.ownBlock=some k→B≤k:=fun k hk=>(h.lt k hk).1
theorem own_step {w:World} {B n:Nat} {v:Value} {zs:List Int} {x:Int} (h:w.ownsRow B 5 1 v (n+1) (vals zs++[.int .u8 x])):w.ownsRow B 5 1 v (n+1) (vals (zs++[x])):=by
 have e:vals zs++[.int .u8 x]=vals (zs++[x]):=by simp [vals]
 rwa [e] at h
theorem specPutM (g0 n cap:Nat) (zs:List Int) (N:Int) (w:World) (h:Row w g0 cap zs) (hl:zs.length=n) (hn:n≤100000000) :
  Calls Tryz.prog 58 #[.slice (some ⟨g0,0,none⟩) n cap,.int .i64 N] w fun e w'=>∃ g cp,e = .returned (.slice (some ⟨g,0,none⟩) (n+(numB N).length) cp)∧w.grownBy w' none∧w.heap.size≤g∧Row w' g cp (zs++numB N)∧cp≤maxLen:=by
 obtain ⟨i0,hi,hz0,hz1,hz2⟩:=info_parts info5;have HO:Hid ((w.alloc (.cells #[] 5)).ownsRow w.heap.size 5 1 (.slice (some ⟨w.heap.size,0,none⟩) 0 0) 0 []):=World.ownsRow_made w #[] 0 (Nat.le_refl _) (Nat.zero_le _) rfl
 have HN:Hid ((vals zs).length=n * 1):=by show _=_;simp [vals,hl]
 have HC:Hid (∀ j u,(vals zs)[j]? = some u→(w.alloc (.cells #[] 5)).cell? ((⟨g0,0,none⟩:Addr).add j)=some u):=by
  have h2:=h.kept (gal w (.cells #[] 5) none) (by simp);exact vals_get (n:=n) hl (fun i hi=>by have:=h2.cell i (by omega);simpa using this)
 have HB0:Hid (Below w.heap.size w (w.alloc (.cells #[] 5))):=(Below.refl _ _).alloc (Nat.le_refl _) _;have HL:Hid (zs.length=n):=hl;have HV:=vals_one zs;have HV':Hid (∀ v ∈ vals zs,v.oneCell' = true):=HV;clear h hl HV
 have c1:0+n≤maxLen:=by unfold maxLen;omega
 have c2:(0+n) * 1≤140737488355328:=by omega
 have C1:Hid (0+n≤maxLen):=c1;have C2:Hid ((0+n) * 1≤140737488355328):=c2;clear c1 c2
 have fin:∀ (v:Value) (w':World) (m:Nat),w'.ownsRow w.heap.size 5 1 v m (vals (zs++numB N))→v≠.slice none 0 0→Below w.heap.size w w'→m=n+(numB N).length →
   ∃ g cp,Ending.returned v = .returned (.slice (some ⟨g,0,none⟩) (n+(numB N).length) cp)∧w.grownBy w' none∧w.heap.size≤g∧Row w' g cp (zs++numB N)∧cp≤maxLen:=by
  intro v w' m ho hv hb hm;obtain ⟨g,cp,rfl,hB,hrow,hlen,hcp⟩:=row_own ho hv;exact ⟨g,cp,by rw[hm],grown_of_below hb,hB,hrow,hcp⟩
 have FIN:Hid (∀ (v:Value) (w':World) (m:Nat),w'.ownsRow w.heap.size 5 1 v m (vals (zs++numB N))→v≠.slice none 0 0→Below w.heap.size w w'→m=n+(numB N).length →
   ∃ g cp,Ending.returned v = .returned (.slice (some ⟨g,0,none⟩) (n+(numB N).length) cp)∧w.grownBy w' none∧w.heap.size≤g∧Row w' g cp (zs++numB N)∧cp≤maxLen):=fin
 clear fin;by_cases hN:N < 0∨2147483647 < N
 ·
  have HE:Hid (numB N=[]):=numB_out hN;rcases hN with hN|hN
  all_goals
   go_enter Tryz.func58,Tryz.ntmps58;go_wp2_with (at_builtin;go_must (refine wpList_append_own _ rfl (.tmp 6) (.tmp 7) 22 rfl w.heap.size 5 i0 (.int .u8 0) 1 1 Tryz.underlying22 hi hz0 hz1 hz2 rfl (by decide) (.slice (some ⟨w.heap.size,0,none⟩) 0 0) 0 [] rfl HO.out ⟨g0,0,none⟩ n cap (vals zs) rfl HN.out HC.out HV'.out C1.out C2.out (by simp) ?_);intro v1 w1 hown1 hgrow1 hnil1);go_ret;have hb:=HB0.out.grown hgrow1 (by simp) (own_lt HO.out);refine FIN.out v1 w1 (0+n) ?_ ?_ hb ?_
   ·
    rw[HE.out];simpa using hown1
   ·
    intro e;have hh:=(hnil1.1 e).1;injection hh with h1;cases h1
   ·
    rw[HE.out];simp
 ·
  have h0:0≤N:=by omega
  have h1:N≤2147483647:=by omega
  have HE:Hid (numB N=putB N.toNat):=numB_in h0 h1;clear hN;go_enter Tryz.func58,Tryz.ntmps58;go_wp2_with (at_builtin;go_must (refine wpList_append_own _ rfl (.tmp 6) (.tmp 7) 22 rfl w.heap.size 5 i0 (.int .u8 0) 1 1 Tryz.underlying22 hi hz0 hz1 hz2 rfl (by decide) (.slice (some ⟨w.heap.size,0,none⟩) 0 0) 0 [] rfl HO.out ⟨g0,0,none⟩ n cap (vals zs) rfl HN.out HC.out HV'.out C1.out C2.out (by simp) ?_);intro v1 w1 hown1 hgrow1 hnil1);have hb1:=HB0.out.grown hgrow1 (by simp) (own_lt HO.out)
  have hne1:v1≠.slice none 0 0:=by intro e;have hh:=(hnil1.1 e).1;injection hh with h1;cases h1
  have hown1':w1.ownsRow w.heap.size 5 1 v1 (n+([]:List Int).length) (vals (zs++[])):=by simpa using hown1
  have HOW1:Hid (w1.ownsRow w.heap.size 5 1 v1 (n+([]:List Int).length) (vals (zs++[]))):=hown1';have HNE1:Hid (v1≠.slice none 0 0):=hne1;have HB1:Hid (Below w.heap.size w w1):=hb1;clear hnil1 hgrow1 hown1 hown1' hne1 hb1 HO HN HC HV' HB0 C1 C2
  go_loopw [1,5] (fun v o wr=>∃ (m:Int) (pre:List Int),v = .int .i64 m∧0≤m∧m≤2147483647∧Hid (wr.ownsRow w.heap.size 5 1 o (n+pre.length) (vals (zs++pre)))∧Hid (o≠.slice none 0 0)∧Hid (Below w.heap.size w wr)∧Hid (pre++putB m.toNat=numB N)) (fun v _ _=>(intOf v).toNat)
  case atStart=>exact ⟨N,[],rfl,h0,h1,HOW1,HNE1,HB1,HE.out.symm⟩
  case round =>
   clear HOW1 HNE1 HB1 HE;obtain ⟨m,pre,rfl,hm0,hm1,HOW,HNE,HB,HP⟩:=hrel
   have hpl:pre.length≤5:=by
    have e:=congrArg List.length HP.out;have:=numB_len N;rw[lA] at e;omega
   have hbs:=HB.out.size
   have E1:Hid (n+pre.length+1≤maxLen):=by show _≤_;unfold maxLen;omega
   have E2:Hid ((n+pre.length+1) * 1≤140737488355328):=by show _≤_;omega
   have E3:∀ o,Hid (w.heap.size≤(wr.alloc o).heap.size):=by intro o;show _≤_;simp;omega
   by_cases hgt:127 < m
   ·
    have HP2:Hid ((pre++[128+m % 128])++putB (m / 128).toNat=numB N):=by
     show _=_
     have e:=HP.out;rw[putI_more (by omega)] at e;rw[← e,lD9,List.singleton_append,Int.add_comm 128 (m % 128)]
    go_wp2_with (at_builtin;go_must (refine wpList_append_own _ rfl (.tmp 18) (.tmp 23) 22 rfl w.heap.size 5 i0 (.int .u8 0) 1 1 Tryz.underlying22 hi hz0 hz1 hz2 rfl (by decide) u5 (n+pre.length) (vals (zs++pre)) rfl (HOW.out.alloc _) ⟨wr.heap.size,0,none⟩ 1 1 [.int .u8 (128+m % 128)] rfl rfl (cell_one_new _ _ _) (by simp [Value.oneCell']) E1.out E2.out (E3 _).out ?_);intro v2 w2 hown2 hgrow2 hnil2)
    have OW2:Hid (w2.ownsRow w.heap.size 5 1 v2 (n+(pre++[128+m % 128]).length) (vals (zs++(pre++[128+m % 128])))):=by
     show w2.ownsRow _ _ _ _ _ _
     have e:=own_step hown2;rw[lD9] at e
     have e2:n+(pre++[128+m % 128]).length=n+pre.length+1:=by simp;omega
     rw[e2];exact e
    have NE2:Hid (v2≠.slice none 0 0):=fun e=>HNE.out (hnil2.1 e).1
    have B2:Hid (Below w.heap.size w w2):=(HB.out.alloc hbs _).grown hgrow2 (by simp;omega) (own_lt HOW.out);clear hown2 hgrow2 hnil2;go_roundw
    case rel=>exact ⟨m / 128,pre++[128+m % 128],rfl,by omega,by omega,OW2,NE2,B2,HP2⟩
    case measure=>simp [intOf];omega
   ·
    have HP2:Hid (pre++[m]=numB N):=by
     show _=_
     have e:=HP.out;rw[putI hm0 (by omega)] at e;exact e
    go_wp2_with (at_builtin;go_must (refine wpList_append_own _ rfl (.tmp 27) (.tmp 30) 22 rfl w.heap.size 5 i0 (.int .u8 0) 1 1 Tryz.underlying22 hi hz0 hz1 hz2 rfl (by decide) u5 (n+pre.length) (vals (zs++pre)) rfl (HOW.out.alloc _) ⟨wr.heap.size,0,none⟩ 1 1 [.int .u8 m] rfl rfl (cell_one_new _ _ _) (by simp [Value.oneCell']) E1.out E2.out (E3 _).out ?_);intro v2 w2 hown2 hgrow2 hnil2);go_ret;refine FIN.out v2 w2 (n+pre.length+1) ?_ ?_ ?_ ?_
    ·
     have e:=own_step hown2
     rwa [lD9,HP2.out] at e
    ·
     exact fun e=>HNE.out (hnil2.1 e).1
    ·
     exact (HB.out.alloc hbs _).grown hgrow2 (by simp;omega) (own_lt HOW.out)
    ·
     have e:=congrArg List.length HP2.out;simp at e;omega
theorem own_row {w:World} {B g cap n:Nat} {zs:List Int} (h:Row w g cap zs) (hl:zs.length=n) (hB:B≤g) (hm:cap≤maxLen):w.ownsRow B 5 1 (.slice (some ⟨g,0,none⟩) n cap) n (vals zs):=by
 obtain ⟨cur,hc,hs,ht,hle⟩:=h;exact ⟨by simp [vals,hl],.inr ⟨g,cap,cur,rfl,hB,hc,by omega,hm,by omega,by rw[Nat.mul_one,← hl];exact ht⟩⟩
def getText (zs:List Int) (p:Int):Option (List Int × Int) :=
 if (getNum zs p).2 < 0∨40 < (getNum zs p).1∨(zs.length:Int) - (getNum zs p).2 < (getNum zs p).1 then none
 else some ((zs.drop (getNum zs p).2.toNat).take (getNum zs p).1.toNat,(getNum zs p).2+(getNum zs p).1)
theorem cut_len (zs:List Int) (q k:Nat) (h:q+k≤zs.length):((zs.drop q).take k).length=k:=by simp;omega
theorem cut_get (zs:List Int) (q k i:Nat) (h:i < k):((zs.drop q).take k).getD i 0=zs.getD (q+i) 0:=by
 rw[List.getD_eq_getElem?_getD,List.getElem?_take_of_lt h,List.getElem?_drop,← List.getD_eq_getElem?_getD]
theorem cut_reads {w:World} {g cap:Nat} {zs:List Int} (h:Row w g cap zs) (q k:Nat) (hq:q+k≤zs.length):∀ i,i < k→w.cell? ⟨g,q+i,none⟩=some (.int .u8 (((zs.drop q).take k).getD i 0)):=by
 intro i hi;rw[cut_get zs q k i hi];exact h.cell (q+i) (by omega)
theorem vals_at {w:World} {b off n:Nat} {zs:List Int} (hl:zs.length=n) (hc:∀ i,i < n→w.cell? ⟨b,off+i,none⟩=some (.int .u8 (zs.getD i 0))):∀ j v,(vals zs)[j]? = some v→w.cell? ⟨b,off+j,none⟩=some v:=by
 intro j v hj
 have hj':j < n:=by
  have:=(List.getElem?_eq_some_iff.1 hj).1;simpa [vals,hl] using this
 rw[hc j hj',← hj];simp [vals,List.getD_eq_getElem?_getD,List.getElem?_eq_getElem (show j < zs.length by omega)]
def Ans (w w':World) (o:Option (List Int × Int)) (v:Value) (x:Int):Prop :=
 match o with
 | none=>v = .slice none 0 0∧x = -1
 | some (ts,y)=>∃ g cp,v = .slice (some ⟨g,0,none⟩) ts.length cp∧x=y∧w.heap.size≤g∧Row w' g cp ts
theorem implGetC (g n cap:Nat) (zs:List Int) (p:Int) (w:World) (h:Row w g cap zs) (hl:zs.length=n) (hz:Byt zs) (hn:n≤1048576) (hcap:n≤cap) (hp:p≤9223372036854775807) :
  Calls Tryz.prog 97 #[.slice (some ⟨g,0,none⟩) n cap,.int .i64 p] w fun e w'=>∃ v x,e = .returned (.tuple #[v,.int .i64 x])∧w.grownBy w' none∧Ans w w' (getText zs p) v x:=by
 have hG:=implGet (some ⟨g,0,none⟩) n cap zs p w (h.reads' hl) hz (by omega) hp;have hb:=getNum_bounds zs hz p;unfold getText;obtain ⟨k,q,hkq⟩:∃ k q,getNum zs p=(k,q):=⟨_,_,rfl⟩;rw[hkq] at hG hb ⊢;simp only at hG hb ⊢;clear hkq;by_cases hbad:q < 0∨40 < k∨(zs.length:Int) - q < k
 ·
  rw[if_pos hbad];go_enter Tryz.func97,Tryz.ntmps97;go_wp2_with fail;refine hG.mono ?_;rintro e w1 ⟨rfl,hq1⟩;have hg1:=quiet hq1;have HG1:Hid (w.grownBy w1 none):=hg1;clear hG hq1 hg1 hz h;rcases (show q < 0∨(0≤q∧40 < k)∨(0≤q∧k≤40∧(n:Int) - q < k) by omega) with h1|⟨h1,h2⟩|⟨h1,h2,h3⟩
  ·
   have hq:q = -1:=by
    rcases hb with hb|hb
    ·
     exact (Prod.mk.inj hb).2
    ·
     omega
   clear hb hbad;go_wp2;go_ret2;exact ⟨_,_,rfl,HG1.out,rfl,rfl⟩
  ·
   clear hbad;go_wp2;go_ret2;exact ⟨_,_,rfl,HG1.out,rfl,rfl⟩
  ·
   have hq2:q≤n:=by
    rcases hb with hb|hb
    ·
     have:=(Prod.mk.inj hb).2;omega
    ·
     omega
   clear hb hbad;go_wp2;go_ret2;exact ⟨_,_,rfl,HG1.out,rfl,rfl⟩
 ·
  rw[if_neg hbad];obtain ⟨k',rfl⟩:∃ k':Nat,k=k':=⟨k.toNat,by rcases hb with hb|hb <;> first|omega | (have:=(Prod.mk.inj hb).2;omega)⟩;obtain ⟨q',rfl⟩:∃ q':Nat,q=q':=⟨q.toNat,by omega⟩
  have hk40:k'≤40:=by omega
  have hqk:q' + k'≤n:=by omega
  rw[Int.toNat_natCast,Int.toNat_natCast];clear hb hbad;have hml:=cut_len zs q' k' (by omega)
  have hcr:=fun w (h:Row w g cap zs)=>cut_reads h q' k' (by omega)
  generalize (zs.drop q').take k' = ts at *;have hmk:=make_run k' (by omega);rw[made_is] at hmk
  have HO:Hid ((vals (List.replicate k' 0)).length=k'):=by show _=_;simp [vals]
  have HE:Hid (splice (vals (List.replicate k' 0)) 0 (vals ts)=vals ts):=by
   show _=_
   unfold splice;rw[List.take_zero,List.nil_append,List.drop_of_length_le (by simp [vals,hml]),List.append_nil]
  have HV:Hid (∀ v ∈ vals ts,v.oneCell' = true):=vals_one ts
  have HT:Hid ((vals ts).length=k'):=by show _=_;simp [vals,hml]
  generalize hO:vals (List.replicate k' 0)=O at *;have HML:Hid (ts.length=k'):=hml;have HCR:Hid (∀ w,Row w g cap zs→∀ i,i < k'→w.cell? ⟨g,q' + i,none⟩=some (.int .u8 (ts.getD i 0))):=hcr;have H:Hid (Row w g cap zs):=h;clear hml hcr hO h hl hz;go_enter Tryz.func97,Tryz.ntmps97;go_wp2_with fail;refine hG.mono ?_;rintro e w1 ⟨rfl,hq1⟩;have hg1:=quiet hq1;have HG1:Hid (w.grownBy w1 none):=hg1;have HB1:Hid (Below w1.heap.size w1 (w1.alloc (.cells O.toArray 5))):=(Below.refl _ _).alloc (Nat.le_refl _) _;have HSRC:Hid (∀ i,i < k'→(w1.alloc (.cells O.toArray 5)).cell? ⟨g,q' + i,none⟩=some (.int .u8 (ts.getD i 0))):=HCR.out _ ((H.out.kept hg1 (by simp)).kept (gal w1 (.cells O.toArray 5) none) (by simp));clear hG hq1 hg1
  go_wp2_with (first
   | (refine wpList_copy_splice rfl (.tmp 31) (.tmp 34) 22 22 rfl 5 Tryz.underlying22 size1 _ _ _ _ _ _ rfl rfl w1.heap.size 0 O 5 (hnw w1 _) (vals ts) ?d1 ?d2 ?d4 HV.out w1.heap.size w1 HB1.out (Nat.le_refl _) ?d3))
  case d1=>rw[HT.out];exact (Nat.min_eq_right (by omega)).symm
  case d2.inl=>intro hp;exfalso;have:=HT.out;omega
  case d2.inr=>exact fun _=>vals_at HML.out HSRC.out
  case d4=>have:=HT.out;have:=HO.out;omega
  all_goals
   intro w2 HG2 hB2;have HGA:Hid (w.grownBy w2 none):=gtr HG1.out (grown_of_below hB2);have HRW:Hid (Row w2 w1.heap.size k' ts):=row_of (by have:=HG2.out;rwa [HE.out] at this) HML.out;have hsz:w.heap.size≤w1.heap.size:=HG1.out.size;clear HG2 hB2 HSRC HB1;go_wp2;go_ret2;refine ⟨_,_,rfl,HGA.out,w1.heap.size,k',?_,rfl,hsz,HRW.out⟩;rw[HML.out];rfl
inductive G:Type
 | nil:G
 | num (k:IntKind) (n:Int) (rest:G)
 | sl (s:Nat) (kids rest:G)
def G.len:G→Nat
 | .nil=>0
 | .num _ _ r=>r.len+1
 | .sl _ _ r=>r.len+1
def G.app:G→G→G
 | .nil,g=>g
 | .num k n r,g=>.num k n (r.app g)
 | .sl s d r,g=>.sl s d (r.app g)
theorem G.app_len (f g:G):(f.app g).len=f.len+g.len:=by
 induction f with
 | nil=>simp [G.app,G.len]
 | num k n r ih=>simp [G.app,G.len,ih];omega
 | sl s d r _ ih=>simp [G.app,G.len,ih];omega
def Plc (w:World) (g m:Nat):Prop:=∃ cur t,w.heap[g]? = some (.cells cur t (0,0))∧cur.size=m
theorem Plc.lt {w:World} {g m:Nat} (h:Plc w g m):g < w.heap.size:=by
 obtain ⟨cur,t,hc,_⟩:=h;exact lbk hc
theorem Plc.of {w w':World} {g m:Nat} (h:Plc w g m) (e:w'.heap[g]? = w.heap[g]?):Plc w' g m:=by
 obtain ⟨cur,t,hc,r⟩:=h;exact ⟨cur,t,by rw[e];exact hc,r⟩
theorem Plc.free {w:World} {g m:Nat} (h:Plc w g m) (j:Nat):w.frozen? ⟨g,j,none⟩=false:=by
 obtain ⟨cur,t,hc,_⟩:=h;exact frozen_of_row w g j cur t hc
theorem Plc.has {w:World} {g m:Nat} (h:Plc w g m) (j:Nat) (hj:j < m):∃ v,w.cell? ⟨g,j,none⟩=some v:=by
 obtain ⟨cur,t,hc,hs⟩:=h;rw[cell_of_row w g j cur t (0,0) hc];exact ⟨_,Array.getElem?_eq_getElem (by omega)⟩
theorem Plc.set {w:World} {g m:Nat} (h:Plc w g m) (b o:Nat) (v:Value):Plc (w.setCell ⟨b,o,none⟩ v) g m:=by
 obtain ⟨cur,t,hc,hs⟩:=h;by_cases e:b=g
 ·
  subst e;exact ⟨_,t,hsm w b o cur t v hc,by simpa using hs⟩
 ·
  exact ⟨cur,t,((gsc w b o v).block g (lbk hc) (by simpa using fun x=>e x.symm)).trans hc,hs⟩
theorem setCells_grown (g:Nat):∀ (vs:List Value) (o:Nat) (w:World),w.grownBy (w.setCells g o vs) (some g)
 | [],_,w=>grf _ _
 | v::r,o,w=>gtr (gsc w g o v) (setCells_grown g r (o+1) (w.setCell ⟨g,o,none⟩ v))
theorem Plc.setCells {g m:Nat}:∀ (vs:List Value) (o:Nat) {w:World},Plc w g m→Plc (w.setCells g o vs) g m
 | [],_,_,h=>h
 | v::r,o,w,h=>by
  obtain ⟨cur,t,hc,hs⟩:=h;exact Plc.setCells r (o+1) ⟨_,t,hsm w g o cur t v hc,by simpa using hs⟩
def OwnG (w:World):G→Nat→Nat→List Nat→Prop
 | .nil,_,_,bs=>bs=[]
 | .num k n r,b,off,bs=>w.cell? ⟨b,off,none⟩=some (.int k n)∧OwnG w r b (off+1) bs
 | .sl s d r,b,off,bs=>∃ bs1 bs2,bs=bs1++bs2∧(∃ a l c,w.cell? ⟨b,off,none⟩=some (.slice a l c)∧d.len=l * s∧l≤9223372036854775807∧l≤c∧((l=0∧d = .nil∧bs1=[])∨∃ g bs',0 < l∧a=some ⟨g,0,none⟩∧bs1=g::bs'∧Plc w g (c * s)∧OwnG w d g 0 bs'))∧OwnG w r b (off+1) bs2
def SlG (w:World) (s:Nat) (a:Option Addr) (l c:Nat) (d:G) (bs:List Nat):Prop :=
 d.len=l * s∧l≤9223372036854775807∧l≤c∧((l=0∧d = .nil∧bs=[])∨∃ g bs',0 < l∧a=some ⟨g,0,none⟩∧bs=g::bs'∧Plc w g (c * s)∧OwnG w d g 0 bs')
theorem SlG.nil (w:World) (s:Nat) (a:Option Addr) (c:Nat):SlG w s a 0 c .nil []:=⟨by simp [G.len],by omega,by omega,.inl ⟨rfl,rfl,rfl⟩⟩
theorem OwnG.outS {w:World} {s:Nat} {d r:G} {b off:Nat} {bs:List Nat} (h:OwnG w (.sl s d r) b off bs) :
  ∃ bs1 bs2 a l c,bs=bs1++bs2∧w.cell? ⟨b,off,none⟩=some (.slice a l c)∧SlG w s a l c d bs1∧OwnG w r b (off+1) bs2:=by
 obtain ⟨bs1,bs2,e,⟨a,l,c,h0,h1⟩,hr⟩:=h;exact ⟨bs1,bs2,a,l,c,e,h0,h1,hr⟩
theorem OwnG.mkS {w:World} {s:Nat} {d r:G} {b off:Nat} {bs1 bs2:List Nat} {a:Option Addr} {l c:Nat} (h0:w.cell? ⟨b,off,none⟩=some (.slice a l c)) (h1:SlG w s a l c d bs1) (h2:OwnG w r b (off+1) bs2):OwnG w (.sl s d r) b off (bs1++bs2) :=
 ⟨bs1,bs2,rfl,⟨a,l,c,h0,h1⟩,h2⟩
theorem OwnG.lt {w:World} {f:G} {b off:Nat} {bs:List Nat} (h:OwnG w f b off bs):∀ g ∈ bs,g < w.heap.size:=by
 induction f generalizing b off bs with
 | nil=>intro g hg;rw[show bs=[] from h] at hg;simp at hg
 | num k n r ih=>exact ih h.2
 | sl s d r ihd ihr =>
  obtain ⟨bs1,bs2,rfl,⟨a,l,c,h0,h1,h2,h3,h6⟩,hr⟩:=h;intro g hg;rcases List.mem_append.1 hg with hg|hg
  ·
   rcases h6 with ⟨_,_,rfl⟩|⟨g',bs',_,_,rfl,hb,h6⟩
   ·
    simp at hg
   ·
    rcases List.mem_cons.1 hg with rfl|hg
    ·
     exact hb.lt
    ·
     exact ihd h6 g hg
  ·
   exact ihr hr g hg
theorem SlG.lt {w:World} {s:Nat} {f:G} {a:Option Addr} {l c:Nat} {bs:List Nat} (h:SlG w s a l c f bs):∀ g ∈ bs,g < w.heap.size:=by
 obtain ⟨h1,h2,h3,h4⟩:=h;intro g hg;rcases h4 with ⟨_,_,rfl⟩|⟨g',bs',_,_,rfl,hb,h6⟩
 ·
  simp at hg
 ·
  rcases List.mem_cons.1 hg with rfl|hg
  ·
   exact hb.lt
  ·
   exact h6.lt g hg
theorem OwnG.move {w w':World} {f:G} {b off b' off':Nat} {bs:List Nat} (h:OwnG w f b off bs) (hc:∀ i,i < f.len→w'.cell? ⟨b',off' + i,none⟩=w.cell? ⟨b,off+i,none⟩) (hb:∀ g ∈ bs,w'.heap[g]? = w.heap[g]?):OwnG w' f b' off' bs:=by
 induction f generalizing b off b' off' bs with
 | nil=>exact h
 | num k n r ih =>
  simp only[G.len] at hc;refine ⟨by simpa using (hc 0 (by omega)).trans h.1,ih h.2 (fun i hi=>?_) hb⟩;have:=hc (1+i) (by omega);rw[Nat.add_assoc,Nat.add_assoc];exact this
 | sl s d r ihd ihr =>
  obtain ⟨bs1,bs2,rfl,⟨a,l,c,h0,h1,h2,h3,h6⟩,hr⟩:=h;simp only[G.len] at hc;refine ⟨bs1,bs2,rfl,⟨a,l,c,by simpa using (hc 0 (by omega)).trans h0,h1,h2,h3,?_⟩,ihr hr (fun i hi=>?_) (fun g hg=>hb g (List.mem_append_right _ hg))⟩
  ·
   rcases h6 with h6|⟨g,bs',hp,e1,rfl,hbk,h6⟩
   ·
    exact .inl h6
   ·
    have eg:=hb g (by simp);exact .inr ⟨g,bs',hp,e1,rfl,hbk.of eg,ihd h6 (fun i _=>cell_of_heap eg) (fun g' hg'=>hb g' (by simp [hg']))⟩
  ·
   have:=hc (1+i) (by omega);rw[Nat.add_assoc,Nat.add_assoc];exact this
theorem SlG.of {w w':World} {s:Nat} {f:G} {a:Option Addr} {l c:Nat} {bs:List Nat} (h:SlG w s a l c f bs) (hb:∀ g ∈ bs,w'.heap[g]? = w.heap[g]?):SlG w' s a l c f bs:=by
 obtain ⟨h1,h2,h3,h4⟩:=h;refine ⟨h1,h2,h3,?_⟩;rcases h4 with h4|⟨g,bs',hp,e1,rfl,hbk,h4⟩
 ·
  exact .inl h4
 ·
  have eg:=hb g (by simp);exact .inr ⟨g,bs',hp,e1,rfl,hbk.of eg,h4.move (fun i _=>cell_of_heap eg) (fun g' hg'=>hb g' (by simp [hg']))⟩
theorem SlG.kept {w w':World} {s:Nat} {f:G} {a:Option Addr} {l c:Nat} {bs:List Nat} {row:Option Nat} (h:SlG w s a l c f bs) (hg:w.grownBy w' row) (hne:∀ g ∈ bs,some g≠row):SlG w' s a l c f bs :=
 h.of fun g hm=>hg.block g (h.lt g hm) (hne g hm)
theorem SlG.old {w w':World} {s:Nat} {f:G} {a:Option Addr} {l c:Nat} {bs:List Nat} (h:SlG w s a l c f bs) (hg:w.grownBy w' none):SlG w' s a l c f bs :=
 h.kept hg fun _ _=>by simp
theorem SlG.tn {w w':World} {s:Nat} {f:G} {a:Option Addr} {l c:Nat} {bs bt:List Nat} (h:SlG w s a l c f bs) (hg:Tn w w' bt) (hne:∀ g ∈ bs,g ∉ bt):SlG w' s a l c f bs :=
 h.of fun g hm=>hg.block g (h.lt g hm) (hne g hm)
theorem OwnG.app {w:World} {f g:G} {b off:Nat} {bs1 bs2:List Nat} (h:OwnG w f b off bs1) (k:OwnG w g b (off+f.len) bs2):OwnG w (f.app g) b off (bs1++bs2):=by
 induction f generalizing off bs1 with
 | nil=>rw[show bs1=[] from h];simpa [G.app,G.len] using k
 | num kk n r ih =>
  refine ⟨h.1,ih h.2 ?_⟩;rw[show off+1+r.len=off+(G.num kk n r).len by simp only[G.len];omega];exact k
 | sl s d r ihd ihr =>
  obtain ⟨c1,c2,rfl,hx,hr⟩:=h;rw[lD9];refine ⟨c1,c2++bs2,rfl,hx,ihr hr ?_⟩;rw[show off+1+r.len=off+(G.sl s d r).len by simp only[G.len];omega];exact k
theorem OwnG.vals {w:World} {f:G} {b off:Nat} {bs:List Nat} (h:OwnG w f b off bs):∃ vs:List Value,vs.length=f.len∧(∀ j,j < f.len→w.cell? ⟨b,off+j,none⟩=vs[j]?)∧∀ v ∈ vs,v.oneCell' = true:=by
 induction f generalizing off bs with
 | nil=>exact ⟨[],rfl,fun j hj=>by simp [G.len] at hj,fun v hv=>by simp at hv⟩
 | num k n r ih =>
  obtain ⟨vs,h1,h2,h3⟩:=ih h.2;refine ⟨.int k n::vs,by simp [G.len,h1],fun j hj=>?_,fun v hv=>?_⟩
  ·
   cases j with
   | zero=>simpa using h.1
   | succ j=>rw[show off+(j+1)=off+1+j by omega,h2 j (by simp only[G.len] at hj;omega)];rfl
  ·
   rcases List.mem_cons.1 hv with rfl|hv
   ·
    rfl
   ·
    exact h3 v hv
 | sl s d r ihd ihr =>
  obtain ⟨bs1,bs2,a,l,c,e,h0,_,hr⟩:=h.outS;obtain ⟨vs,h1,h2,h3⟩:=ihr hr;refine ⟨.slice a l c::vs,by simp [G.len,h1],fun j hj=>?_,fun v hv=>?_⟩
  ·
   cases j with
   | zero=>simpa using h0
   | succ j=>rw[show off+(j+1)=off+1+j by omega,h2 j (by simp only[G.len] at hj;omega)];rfl
  ·
   rcases List.mem_cons.1 hv with rfl|hv
   ·
    rfl
   ·
    exact h3 v hv
end Go.Proofs.YtnmlbeefjjohfaaGreatDoor.By
