/-
  No statement is proved here.
-/
import Derived.Test.YtblbnillilbacaaGreatDoorShelfIAlsoa
import Derived.Test.YtblbnillilbacaaGreatDoorEXa
namespace Go.Proofs.YtblbnillilbacaaGreatDoor.By
set_option maxRecDepth 100000
set_option maxHeartbeats 16000000
open Go.RowKit
set_option linter.unusedVariables false
set_option linter.unusedSimpArgs false
theorem cle_belowK {W0 u:World} (h:Below W0.heap.size W0 u):CLe W0 u:=fun p v hv=>by rw[h.cell (p:=p) (block_lt_of_cell hv)];exact hv
theorem grown_growK (w:World) (k:Nat) (os:Array Obj):w.grownBy (Go.Sort.grow (w.drewN k) os) none:=by
 refine ⟨rfl,rfl,rfl,?_,fun i hi _=>?_⟩
 ·
  show w.heap.size≤(w.heap++os).size
  simp
 ·
  show (w.heap++os)[i]? = w.heap[i]?
  exact Array.getElem?_append_left hi
structure Bas (W0:World):Prop where
 tab : ∀ u, Below W0.heap.size W0 u → Lib.TabIs Tryz.prog u "internal/strconv.uint64pow10" .u64 Lib.pow10Tab
 forms:FormsIn W0
theorem Bas.formsAt {W0 u:World} (h:Bas W0) (b:Below W0.heap.size W0 u):FormsIn u:=by
 obtain ⟨t,fr,h0⟩:=h.forms;exact ⟨t,fr,(b.block 0 (lt_of_block h0)).trans h0⟩
theorem itoaT (n:Int) (h0:-9223372036854775808≤n) (h1:n≤9223372036854775807) (W0 w:World) (h:Bas W0) (hb:Below W0.heap.size W0 w) :
  Calls Tryz.prog 106 #[.int .i64 n] w fun e u=>∃ st,e = .returned (.string st)∧ofB st.data.toList=intB n∧w.grownBy u none:=by
 refine (Tryz.strconv_Itoa n h0 h1 w (h.tab w hb)).mono ?_;rintro e u ⟨rfl,k,os,rfl⟩;exact ⟨_,rfl,by simp [intB],grown_growK w k os⟩
theorem ofB_str {zs:List Int} (h:Byt zs):ofB (strOfNums zs).data.toList=zs:=by
 have e:(strOfNums zs).data.toList=zs.map fun z=>UInt8.ofNat z.toNat:=by simp [strOfNums]
 unfold ofB;rw[e,List.map_map]
 conv=>rhs;rw[← List.map_id zs]
 refine List.map_congr_left fun z hz=>?_
 have:=h z hz;simp only[Function.comp_apply,id_eq,UInt8.toNat_ofNat'];omega
theorem ofB_cat (a b:ByteArray):ofB (a++b).data.toList=ofB a.data.toList++ofB b.data.toList:=by
 rw[ByteArray.data_append,Array.toList_append,ofB_app]
theorem fieldW (st:ByteArray) (f1:Int) (f2:Bool) (x:World):(Instr.field 187 (.agg #[.string st,.int .i64 f1,.bool f2]) 0).run Tryz.prog x = .ok (.string st) x:=by kernel_rfl
theorem tyWordT (W0:World) (q:Nat) (da:Option Addr) (dl dc:Nat) (ds:List Da) (V k n:Int) (d:F) (a:Option Addr) (l c:Nat) (v:Value) (zs:List Int) (w:World) (hbas:Bas W0) (hb:Below W0.heap.size W0 w) (hds:SlDa W0 da dl ds) (h:WrP W0.heap.size q (.slice da dl dc) w v zs) (hf:fitsB k n d.len=true) (hd:tyD V ds k n d=true) :
  Calls Tryz.prog 142 #[.pointer (some ⟨q,0,none⟩),.agg #[.int .i64 k,.int .i64 n,.slice a l c]] w fun e u=>∃ st,e = .returned (.string st)∧ofB st.data.toList=twB ds k n∧w.grownBy u none:=by
 have hk:=fits_rangeS hf;have hn:=fits_num hf;have g0:=gal w (.cells #[.int .i64 k,.int .i64 n,.slice a l c] 79) none;have b0:=heap_alloc_new w (.cells #[.int .i64 k,.int .i64 n,.slice a l c] 79);obtain ⟨⟨y0,y1,y2⟩,-⟩:=three b0;have hb2:=(hb.grown g0 hb.size (fun k hk=>by cases hk));have HG:Hid (w.grownBy (w.alloc (.cells #[.int .i64 k,.int .i64 n,.slice a l c] 79)) none):=g0;by_cases h6:k=6
 ·
  subst h6;obtain ⟨x,hx,-⟩:=tw_data hd;obtain ⟨i,rfl⟩:∃ i:Nat,n=(i:Int):=⟨n.toNat,by omega⟩;rw[Int.toNat_natCast] at hx;have hi:i < ds.length:=(List.getElem?_eq_some_iff.1 hx).1
  have hil:i < dl:=by have:=hds.1;omega
  rcases hds.cases with ⟨e0,-⟩|⟨b,o,rfl,hin,-⟩
  ·
   omega
  obtain ⟨x',a1,n1,c1,a2,l2,c2,hx',z0,z1,z2,hR,-⟩:=hin.nth hi;rw[hx] at hx';injection hx' with hx';subst hx';have cl:=cle_belowK hb2;have k0:=cl _ _ z0;have hR2:=hR.le cl;have hcv:(convert 23 9 (.slice a1 n1 c1)).run Tryz.prog (w.alloc (.cells #[.int .i64 6,.int .i64 (i:Int),.slice a l c] 79)).drew = .ok (.string (strOfNums x.name)) (w.alloc (.cells #[.int .i64 6,.int .i64 (i:Int),.slice a l c] 79)).drew:=conv_run (hR2.none (grown_drew (grf _ none))).1
  have E:Hid (ofB (strOfNums x.name).data.toList=twB ds 6 (i:Int)):=by
   show _=_
   rw[ofB_str hR.2.1];unfold twB;rw[if_pos rfl,Int.toNat_natCast,hx]
  obtain ⟨⟨p0,p1⟩,-⟩:=(h.grown g0).cell;clear h hds hin z0 z1 z2 hR hR2 cl g0 b0 hd hf hx hi hbas hb hb2;generalize strOfNums x.name=st at *;go_enter Tryz.func142,Tryz.ntmps142;go_upto_region 3 with fail;refine wp_region_held_drew (S:=(fun u:World=>u=(w.alloc (.cells #[.int .i64 6,.int .i64 (i:Int),.slice a l c] 79)).drew)) (by kernel_rfl) rfl (fun hH=>?_);have GD:Hid (w.grownBy (w.alloc (.cells #[.int .i64 6,.int .i64 (i:Int),.slice a l c] 79)).drew none):=grown_drew HG.out;have k0':(w.alloc (.cells #[.int .i64 6,.int .i64 (i:Int),.slice a l c] 79)).drew.cell? ⟨b,o+i * 3,none⟩=some (.slice a1 n1 c1):=k0;have y1':(w.alloc (.cells #[.int .i64 6,.int .i64 (i:Int),.slice a l c] 79)).drew.cell? ⟨w.heap.size,1,none⟩=some (.int .i64 (i:Int)):=y1;have p1':(w.alloc (.cells #[.int .i64 6,.int .i64 (i:Int),.slice a l c] 79)).drew.cell? ⟨q,1,none⟩=some (.slice (some ⟨b,o,none⟩) dl dc):=p1;clear k0 y0 y1 y2 p0 p1 HG
  generalize (w.alloc (.cells #[.int .i64 6,.int .i64 (i:Int),.slice a l c] 79)).drew=x0 at *;generalize w.heap.size=q1 at *;simp only[List.size_toArray,lB,lC,Nat.reduceAdd,Array.replicate,List.replicate];refine tk 0 ?_;refine tk 1 ?_;refine tk 2 ?_;refine tk 3 ?_;refine tk 4 ?_;refine tk 5 ?_;refine tk 6 ?_;refine tk 7 ?_;refine tk 8 ?_;refine tk 9 ?_;refine tk 10 ?_;refine wpAnyH_done (by kernel_rfl) ?_ _;clear hH k0' y1' p1' hcv;go_wp2;go_ret;exact ⟨st,rfl,E.out,GD.out⟩
 by_cases h7:k=7
 ·
  subst h7;have C0:Hid _:=itoaT n (by omega) (by omega) W0 (w.alloc (.cells #[.int .i64 7,.int .i64 n,.slice a l c] 79)) hbas hb2
  have E:Hid (twB ds 7 n=39::intB n):=by show _=_;unfold twB;rw[if_neg (by decide),if_pos rfl,intB_pos (by omega)]
  clear h hds g0 b0 hd hf hbas hb hb2;go_enter Tryz.func142,Tryz.ntmps142;go_wp2_with fail;refine Calls.mono C0.out ?_;rintro e u ⟨st,rfl,hst,hg⟩;have F:Hid (ofB st.data.toList=intB n∧w.grownBy u none):=⟨hst,gtr HG.out hg⟩
  have hsz:st.size≤20:=by
   have e1:=congrArg List.length hst;rw[ofB_len,Array.length_toList,intB_pos (by omega)] at e1;have:=decB_len 4 n.toNat (by omega)
   show st.data.size≤20
   omega
  clear C0 hst hg y0 y1 y2;simp only[];go_wp2;go_ret;refine ⟨_,rfl,?_,F.out.2⟩;rw[E.out,ofB_cat,F.out.1];rfl
 have C0:Hid _:=fixT k hk.1 (by omega) (w.alloc (.cells #[.int .i64 k,.int .i64 n,.slice a l c] 79))
 have h6b:(k == 6)=false:=by simpa using h6
 have h7b:(k == 7)=false:=by simpa using h7
 have HK:Hid (¬ k=6∧¬ k=7∧0≤k∧k≤7):=⟨h6,h7,hk⟩;clear h hds g0 b0 hd hf hbas hb hb2 h6 h7 hk hn;obtain ⟨fv,hfv⟩:∃ fv,fixV k=fv:=⟨_,rfl⟩
 obtain ⟨st,f1,f2,hfe,hst⟩:∃ st f1 f2,fv = .agg #[.string st,.int .i64 f1,.bool f2]∧ofB st.data.toList=twB ds k n:=by
  have h0:=HK.out
  have:k=0∨k=1∨k=2∨k=3∨k=4∨k=5:=by omega
  rcases this with rfl|rfl|rfl|rfl|rfl|rfl <;> exact ⟨_,_,_,hfv.symm,rfl⟩
 rw[hfv] at C0;subst hfe;have E:Hid (ofB st.data.toList=twB ds k n):=hst
 have hfl:∀ x,(Instr.field 187 (.agg #[.string st,.int .i64 f1,.bool f2]) 0).run Tryz.prog x = .ok (.string st) x:=fun x=>fieldW st f1 f2 x
 clear hfv hst HK;go_enter Tryz.func142,Tryz.ntmps142;go_wp2_with fail;refine Calls.mono C0.out ?_;rintro e u ⟨rfl,hg⟩;have F:Hid (w.grownBy u none):=gtr HG.out hg;clear C0 hg y0 y1 y2;simp only[];go_wp2;go_ret;exact ⟨st,rfl,E.out,F.out⟩
theorem tri_below {W0 u:World} {b o:Nat} {v0 v1 v2:Value} (h:Tri b o v0 v1 v2 W0) (hb:Below W0.heap.size W0 u):Tri b o v0 v1 v2 u :=
 have cl:=cle_belowK hb
 ⟨cl _ _ h.1,cl _ _ h.2.1,cl _ _ h.2.2⟩
theorem tyT (W0:World) (q:Nat) (da:Option Addr) (dl dc:Nat) (ds:List Da) (V:Int) (hbas:Bas W0) (hds:SlDa W0 da dl ds) (hG:NamG ds) (m:Nat):∀ (d:F) (k n:Int) (a:Option Addr) (l c:Nat) (v:Value) (zs:List Int) (w:World) (p:Nat),d.size < m→SlF W0 a l d→Below W0.heap.size W0 w→WrP W0.heap.size q (.slice da dl dc) w v zs→fitsB k n d.len=true→okF d p=true→tyD V ds k n d=true→zs.length+(20+20 * d.size)≤900000 →
  Calls Tryz.prog 107 #[.pointer (some ⟨q,0,none⟩),.agg #[.int .i64 k,.int .i64 n,.slice a l c]] w fun e u=>PrA W0.heap.size q (.slice da dl dc) w (gapZ zs++tyX ds k n d) e u:=by
 induction m with
 | zero=>intro d k n a l c v zs w p hm;exact absurd hm (Nat.not_lt_zero _)
 | succ m ih =>
  intro d k n a l c v zs w p hm h hb hW hf hok hd hlen;have g0:=gal w (.cells #[.int .i64 k,.int .i64 n,.slice a l c] 79) none;have b0:=heap_alloc_new w (.cells #[.int .i64 k,.int .i64 n,.slice a l c] 79);have hfl:=h.1;have hl:=h.2.1;have hw:=twB_good hG hf hd
  have hqq:w.heap.size≠q:=fun e=>by have:=lt_of_block hW.box;omega
  have HB:Hid (∀ u,FrP W0.heap.size q w u→Below W0.heap.size W0 u):=fun u hu=>hb.trans hu.below
  have f0:FrP W0.heap.size q w (w.alloc (.cells #[.int .i64 k,.int .i64 n,.slice a l c] 79)):=FrP.grown g0 hb.size
  have HC:Hid (∀ v0 z0 u,FrP W0.heap.size q w u→WrP W0.heap.size q (.slice da dl dc) u v0 z0→_):=fun v0 z0 u hu h0=>tyWordT W0 q da dl dc ds V k n d a l c v0 z0 u hbas (HB.out u hu) hds h0 hf hd
  have IH:Hid _:=ih;have HS:Hid (SlF W0 a l d∧okF d p=true∧tyDF V ds d=true∧gapB (twB ds k n)=true):=⟨h,hok,tyD_subs hf hd,hw.1⟩;have hgl:=gapZ_len zs;have hwl:=hw.2;obtain ⟨tw,htw⟩:∃ tw,twB ds k n=tw:=⟨_,rfl⟩;have AL:Hid (WrP W0.heap.size q (.slice da dl dc) (w.alloc (.cells #[.int .i64 k,.int .i64 n,.slice a l c] 79)) v zs∧FrP W0.heap.size q w (w.alloc (.cells #[.int .i64 k,.int .i64 n,.slice a l c] 79))∧(w.alloc (.cells #[.int .i64 k,.int .i64 n,.slice a l c] 79)).heap[w.heap.size]? = some (.cells #[.int .i64 k,.int .i64 n,.slice a l c] 79 (0,0))):=⟨hW.grown g0,f0,b0⟩;have HX:Hid (tyX ds k n d=tyX ds k n d∧twB ds k n=tw):=⟨rfl,htw⟩;rw[htw] at HC HS hwl;clear ih h hb hW hf hok hd g0 b0 f0 hw;go_enter Tryz.func107,Tryz.ntmps107;go_upto_region 1 with fail;generalize w.alloc (.cells #[.int .i64 k,.int .i64 n,.slice a l c] 79)=w1 at *;generalize w.heap.size=q1 at *;obtain ⟨⟨x0,x1,x2⟩,-⟩:=three AL.out.2.2
  by_cases h0:l=0
  ·
   have hd0:d = .nil:=F.nil_of_len (by omega);subst hd0
   have EX:Hid (tyX ds k n .nil=tw):=by show _=_;rw[tyX_nil];exact HX.out.2
   have C0:Hid _:=HC.out v zs w1 AL.out.2.1 AL.out.1;subst h0;clear IH HS HB;go_wp2_with fail;refine Calls.mono C0.out ?_;rintro e u ⟨st,rfl,hst,hg⟩;have C1:Hid _:=wordT W0.heap.size q (.slice da dl dc) v zs st tw u (AL.out.1.grown hg) hst (by omega);have F1:Hid (FrP W0.heap.size q w u):=AL.out.2.1.trans (FrP.grown hg AL.out.1.size);clear C0 hst hg AL x0 x1 x2;simp only[];go_wp2_with fail;refine Calls.mono C1.out ?_;rintro e u2 ⟨rfl,v2,hW,hF⟩;have FF:Hid (WrP W0.heap.size q (.slice da dl dc) u2 v2 (gapZ zs++tyX ds k n .nil)∧FrP W0.heap.size q w u2):=⟨hW.as (by rw[EX.out]),F1.out.trans hF⟩;clear C1 hW hF F1;simp only[];go_wp2
   (try simp only[Exit.inBlock,Exit.then])
   refine bodyPost_ret (results_noneK (P:=Tryz.prog) Tryz.results107 _ _) rfl ?_;exact ⟨rfl,v2,FF.out⟩
  ·
   have h0':¬ (l:Int)=0:=by omega
   have h0b:((l:Int) == 0)=false:=by simpa using h0
   have EX:Hid (tyX ds k n d=40::tw++(tyXF ds d++[41])):=by show _=_;rw[tyX_some (by omega),HX.out.2]
   have C0:Hid _:=openT2 W0.heap.size q (.slice da dl dc) v zs w1 AL.out.1 (by omega);go_wp2_with fail;refine Calls.mono C0.out ?_;rintro e u ⟨rfl,v2,hW,hF⟩;have A2:Hid (WrP W0.heap.size q (.slice da dl dc) u v2 (gapZ zs++[40])∧FrP W0.heap.size q w u∧u.heap[q1]? = some (.cells #[.int .i64 k,.int .i64 n,.slice a l c] 79 (0,0))):=⟨hW,AL.out.2.1.trans hF,hF.cells AL.out.2.2 (by decide) hqq⟩;clear C0 hW hF AL x0 x1 x2;obtain ⟨⟨x0,x1,x2⟩,-⟩:=three A2.out.2.2;have C1:Hid _:=HC.out v2 _ u A2.out.2.1 A2.out.1;simp only[];go_wp2_with fail;refine Calls.mono C1.out ?_;rintro e u2 ⟨st,rfl,hst,hg⟩;have C2:Hid _:=wordT W0.heap.size q (.slice da dl dc) v2 (gapZ zs++[40]) st tw u2 (A2.out.1.grown hg) hst (by simp only[lA,List.length_singleton];omega);have A3:Hid (FrP W0.heap.size q w u2∧u2.heap[q1]? = some (.cells #[.int .i64 k,.int .i64 n,.slice a l c] 79 (0,0))):=⟨A2.out.2.1.trans (FrP.grown hg A2.out.1.size),(hg.block _ (lt_of_block A2.out.2.2) (by simp)).trans A2.out.2.2⟩
   clear C1 hst hg A2 x0 x1 x2;simp only[];go_wp2_with fail;refine Calls.mono C2.out ?_;rintro e u3 ⟨rfl,v3,hW,hF⟩;have A4:Hid (WrP W0.heap.size q (.slice da dl dc) u3 v3 (gapZ zs++[40]++tw)∧FrP W0.heap.size q w u3∧u3.heap[q1]? = some (.cells #[.int .i64 k,.int .i64 n,.slice a l c] 79 (0,0))):=⟨hW.as (by rw[gapZ_open]),A3.out.1.trans hF,hF.cells A3.out.2 (by decide) hqq⟩;clear C2 hW hF A3;obtain ⟨⟨x0,x1,x2⟩,-⟩:=three A4.out.2.2;rcases HS.out.1.cases with ⟨e0,-⟩|⟨b,o,rfl,hin,-,hpos⟩
   ·
    exact absurd e0 h0
   have IN:Hid (InF W0 d b o∧okF d p=true∧tyDF V ds d=true∧gapB tw=true):=⟨hin,HS.out.2.1,HS.out.2.2.1,HS.out.2.2.2⟩;clear hin HS HC;simp only[];go_wp2;clear x0 x1 x2
   go_loopw [25] (fun i wr=>∃ (j:Nat) (R:F) (pre:List Int) (v1:Value),j≤l∧i = .int .i64 j∧R.len+j=l∧R.size≤d.size∧zs.length+pre.length+20 * R.size+3≤900000∧Hid (InF W0 R b (o+j * 3)∧okF R p=true∧tyDF V ds R=true∧gapB pre=true∧pre++tyXF ds R=tw++tyXF ds d)∧Hid (WrP W0.heap.size q (.slice da dl dc) wr v1 (gapZ zs++[40]++pre)∧FrP W0.heap.size q w wr)) (fun i _=>l - (intOf i).toNat)
   case atStart=>exact ⟨0,d,tw,v3,Nat.zero_le _,rfl,by omega,Nat.le_refl _,by omega,⟨by simpa using IN.out.1,IN.out.2.1,IN.out.2.2.1,IN.out.2.2.2,rfl⟩,A4.out.1,A4.out.2.1⟩
   case round =>
    clear A4 IN;obtain ⟨j,R,pre,v1,hj,rfl,hRl,hRs,hus,HR,AL⟩:=hrel;by_cases hlt:j < l
    ·
     have hlt':(j:Int) < l:=by omega
     obtain ⟨q2,hq2⟩:∃ q2,R.len=q2+1:=⟨R.len - 1,by omega⟩;obtain ⟨kk,nn,d',R',rfl,hR'⟩:=F.cons_of_len hq2;obtain ⟨hR,hokR,hdR,hgp,hP⟩:=HR.out;obtain ⟨a2,l2,c2,z0,z1,z2,hd2,hR2⟩:=hR.out
     have e3:o+j * 3+3=o+(j+1) * 3:=by omega
     rw[e3] at hR2;rw[tyDF_cons] at hdR;simp only[okF,Bool.and_eq_true,decide_eq_true_eq] at hokR hdR
     have hds2:d'.size < m:=by simp only[F.size] at hRs hm;omega
     have hRs':R'.size≤d.size:=by simp only[F.size] at hRs;omega
     have hsz:(F.cons kk nn d' R').size=1+d'.size+R'.size:=rfl;rw[hsz] at hus;obtain ⟨y0,y1,y2⟩:=tri_below (W0:=W0) ⟨z0,z1,z2⟩ (HB.out _ AL.out.2);have ga:=gal wr (.cells #[.int .i64 kk,.int .i64 nn,.slice a2 l2 c2] 79) none;have ba:=heap_alloc_new wr (.cells #[.int .i64 kk,.int .i64 nn,.slice a2 l2 c2] 79);have fa:=AL.out.2.trans (FrP.grown ga AL.out.1.size);have CC:Hid _:=IH.out d' kk nn a2 l2 c2 v1 (gapZ zs++[40]++pre) _ (p - 1) hds2 hd2 (HB.out _ fa) (AL.out.1.grown ga) hokR.1.1.2 hokR.1.2 hdR.1 (by simp only[lA,List.length_singleton];omega);have hsl:=tyX_len hG hokR.1.1.2 hokR.1.2 hdR.1;have hgd:=tyX_good hG hokR.1.1.2 hdR.1;have FX:Hid (InF W0 R' b (o+(j+1) * 3)∧okF R' p=true∧tyDF V ds R' = true∧gapB (pre++32::tyX ds kk nn d')=true∧(pre++32::tyX ds kk nn d')++tyXF ds R' = tw++tyXF ds d):=⟨hR2,hokR.2,hdR.2,gapB_app pre (gapB_cons hgd),by rw[← hP,tyXF_cons];simp⟩
     have FY:Hid (gapZ (gapZ zs++[40]++pre)++tyX ds kk nn d' = gapZ zs++[40]++(pre++32::tyX ds kk nn d')):=by show _=_;rw[gapZ_good _ hgp];simp
     have hus':zs.length+(pre++32::tyX ds kk nn d').length+20 * R'.size+3≤900000:=by simp only[lA,lB];omega
     have FA:Hid (FrP W0.heap.size q w _):=fa;obtain ⟨⟨r0,r1,r2⟩,rf,-,-⟩:=three ba;clear HR hR hR2 hd2 hP hokR hdR hgp hsz hRs hsl hgd z0 z1 z2 ga ba fa AL;go_wp2_with fail;refine Calls.mono CC.out ?_;rintro e u4 ⟨rfl,v4,hW4,hF4⟩;have AN:Hid (WrP W0.heap.size q (.slice da dl dc) u4 v4 (gapZ zs++[40]++(pre++32::tyX ds kk nn d'))∧FrP W0.heap.size q w u4):=⟨hW4.as FY.out,FA.out.trans hF4⟩;clear CC hW4 hF4 FA FY y0 y1 y2 r0 r1 r2 rf;simp only[];go_wp2;go_roundw
     case rel=>exact ⟨j+1,R',pre++32::tyX ds kk nn d',v4,by omega,by go_num,by omega,hRs',hus',FX,AN⟩
     case measure=>simp [intOf];omega
    ·
     obtain rfl:j=l:=by omega
     obtain rfl:R = .nil:=F.nil_of_len (by omega);obtain ⟨-,-,-,-,hP⟩:=HR.out;simp only[tyXF,List.append_nil] at hP;have C9:Hid _:=closeT W0.heap.size q (.slice da dl dc) v1 (gapZ zs++[40]++pre) wr AL.out.1 (by simp only[lA,List.length_singleton];omega)
     have EF:Hid (gapZ zs++[40]++pre++[41]=gapZ zs++tyX ds k n d):=by show _=_;rw[EX.out,hP];simp
     clear HR hP IH;go_wp2_with fail;refine Calls.mono C9.out ?_;rintro e u5 ⟨rfl,v5,hW5,hF5⟩;have FF:Hid (WrP W0.heap.size q (.slice da dl dc) u5 v5 (gapZ zs++tyX ds k n d)∧FrP W0.heap.size q w u5):=⟨hW5.as EF.out,AL.out.2.trans hF5⟩;clear C9 hW5 hF5 AL EF;simp only[];go_wp2
     (try simp only[Exit.inBlock,Exit.then])
     refine bodyPost_end (results_noneK (P:=Tryz.prog) Tryz.results107 _ _) rfl ?_;exact ⟨rfl,v5,FF.out⟩
end Go.Proofs.YtblbnillilbacaaGreatDoor.By
