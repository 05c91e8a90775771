/-
  No statement is proved here.
-/
import Derived.Test.YtblbnillilbacaaGreatDoorMEAlsoa
namespace Go.Proofs.YtblbnillilbacaaGreatDoor.By
set_option maxRecDepth 100000
set_option maxHeartbeats 16000000
open Go.RowKit
set_option linter.unusedVariables false
set_option linter.unusedSimpArgs false
theorem putZ_len:∀ (D:List (List Int)) (zs:List Int),(putZ zs D).length≤zs.length+(blz D).length
 | [],zs=>by simp [putZ,blz]
 | t::r,zs=>by
  have h1:=putZ_len r (gapZ zs++t);have h2:=gapZ_len zs;rw[putZ];simp only[blz,lA,lB] at *;omega
theorem putZ_snoc (D:List (List Int)) (zs t:List Int):putZ zs (D++[t])=gapZ (putZ zs D)++t:=by rw[putZ_app];rfl
theorem putZ_part {D E:List (List Int)} {t:List Int} {T:List (List Int)} (zs:List Int) (h:D++t::E=T):(putZ zs D).length+t.length+1≤zs.length+(blz T).length:=by
 have:=putZ_len D zs;rw[← h,blz_app];simp only[blz,lA,lB];omega
theorem its_step (p:PE) (ks rs:List (List Int)) (c:Int) (r:List Int) (i:Nat):itsB p ks rs (c::r) i=itB p ks rs i c++itsB p ks rs r (nxB c i):=rfl
structure InsS (B q:Nat) (dv:Value) (w:World) (q1 q3:Nat) (cs:Array Value) (s:ByteArray) (j:Nat) (u:World) (v:Value) (zs:List Int):Prop where
 wr:WrP B q dv u v zs
 fr:FrP B q w u
 box:u.heap[q1]? = some (.cells cs 36 (0,0))
 it:u.heap[q3]? = some (.stringIter s j)
theorem InsS.step {B q:Nat} {dv:Value} {w:World} {q1 q3:Nat} {cs:Array Value} {s:ByteArray} {j:Nat} {u u':World} {v v':Value} {zs zs':List Int} (h:InsS B q dv w q1 q3 cs s j u v zs) (hq1:q1≠q) (hq3:q3≠q) (hW:WrP B q dv u' v' zs') (hF:FrP B q u u'):InsS B q dv w q1 q3 cs s j u' v' zs' :=
 ⟨hW,h.fr.trans hF,hF.cells h.box (by decide) hq1,hF.iter h.it hq3⟩
theorem InsS.grown {B q:Nat} {dv:Value} {w:World} {q1 q3:Nat} {cs:Array Value} {s:ByteArray} {j:Nat} {u u':World} {v:Value} {zs:List Int} (h:InsS B q dv w q1 q3 cs s j u v zs) (g:u.grownBy u' none):InsS B q dv w q1 q3 cs s j u' v zs :=
 ⟨h.wr.grown g,h.fr.trans (FrP.grown g h.wr.size),(g.block _ (lt_of_block h.box) (by simp)).trans h.box,(g.block _ (lt_of_block h.it) (by simp)).trans h.it⟩
theorem InsS.next {B q:Nat} {dv:Value} {w:World} {q1 q3:Nat} {cs:Array Value} {s:ByteArray} {j:Nat} {u:World} {v:Value} {zs:List Int} (h:InsS B q dv w q1 q3 cs s j u v zs) (h3:w.heap.size≤q3) (hB:B≤w.heap.size) (j':Nat):InsS B q dv w q1 q3 cs s j' (u.iterAt q3 s j') v zs:=by
 have hne:q1≠q3:=by
  rintro rfl;have:=h.box;rw[h.it] at this
  cases this
 exact ⟨h.wr.iterAt h.it j',h.fr.iterAt h3 (Nat.le_trans hB h3) s j',(Lib.iterAt_other u q3 q1 s j' hne).trans h.box,Lib.iterAt_heap u q3 s j j' h.it⟩
theorem InsS.as {B q:Nat} {dv:Value} {w:World} {q1 q3:Nat} {cs:Array Value} {s:ByteArray} {j:Nat} {u:World} {v:Value} {zs ys:List Int} (h:InsS B q dv w q1 q3 cs s j u v zs) (e:zs=ys):InsS B q dv w q1 q3 cs s j u v ys:=e ▸ h
theorem str_ascii {s:ByteArray} (h:∀ z ∈ ofB s.data.toList,0≤z∧z < 128) {j:Nat} (hj:j < s.size):(s[j]'hj).toNat < 128∧(((s[j]'hj).toNat:Nat):Int)=(ofB s.data.toList).getD j 0∧(ofB s.data.toList).drop j=(((s[j]'hj).toNat:Nat):Int)::(ofB s.data.toList).drop (j+1):=by
 have hl:j < (ofB s.data.toList).length:=by rw[ofB_len,Array.length_toList];exact hj
 have e:(ofB s.data.toList)[j]=(((s[j]'hj).toNat:Nat):Int):=by
  simp only[ofB,List.getElem_map,Array.getElem_toList];rfl
 have hm:=h _ (List.getElem_mem hl);rw[e] at hm;refine ⟨by omega,?_,?_⟩
 ·
  rw[List.getD_eq_getElem?_getD,List.getElem?_eq_getElem hl,e];rfl
 ·
  rw[List.drop_eq_getElem_cons hl,e]
theorem iterPos_ofK {w:World} {k:Nat} {s:ByteArray} {p:Nat} (h:w.heap[k]? = some (.stringIter s p)):w.iterPos k=p:=by simp [World.iterPos,h]
theorem str_nil {s:ByteArray} (h:s.toList.isEmpty=true):ofB s.data.toList=[]:=by
 rw[ByteArray.toList_eq] at h
 have e:s.data.toList=[]:=by simpa using h
 rw[e];rfl
theorem str_some {s:ByteArray} (h:s.toList.isEmpty=false):(ofB s.data.toList).length≠0:=by
 rw[ByteArray.toList_eq] at h;intro e;rw[ofB_len] at e;rw[List.eq_nil_of_length_eq_zero e] at h
 cases h
theorem count_next {sl:List Int} {j:Nat} (hj:j < sl.length):(sl.take (j+1)).count 107=nxB (sl.getD j 0) ((sl.take j).count 107):=by
 rw[List.take_add_one,List.getElem?_eq_getElem hj,List.count_append,List.getD_eq_getElem?_getD,List.getElem?_eq_getElem hj];unfold nxB;by_cases h:sl[j]=107
 ·
  simp [h]
 ·
  simp [h]
theorem insideT (W0:World) (q:Nat) (dv:Value) (m:Nat) (hbas:Bas W0) (IH0:ExC W0 q dv m) (p:PE) (kids alts:GE) (a1:Option Addr) (l1 c1:Nat) (a2:Option Addr) (l2 c2:Nat) (a3:Option Addr) (l3 c3:Nat) (a4:Option Addr) (l4 c4:Nat) (a5:Option Addr) (l5 c5:Nat) (v:Value) (zs:List Int) (w:World) (d:Nat) (hm:kids.cnt+alts.cnt < m+1) (h:NdE W0 p kids alts a1 l1 c1 a2 l2 c2 a3 l3 c3 a4 l4 c4 a5 l5 c5) (ho:okE p kids alts d=true) (hb:Below W0.heap.size W0 w) (hW:WrP W0.heap.size q dv w v zs)
  (hlen:zs.length+(blz (inB2 (frmW p.k p.n) (frmS p.k p.n) p (exL false kids) (exL true alts))).length≤900000) :
  Calls Tryz.prog 109 #[.pointer (some ⟨q,0,none⟩),.agg #[.int .i64 p.k,.int .i64 p.n,.slice a1 l1 c1,.slice a2 l2 c2,.slice a3 l3 c3,.slice a4 l4 c4,.slice a5 l5 c5]] w fun e u=>PrA W0.heap.size q dv w (putZ zs (inB2 (frmW p.k p.n) (frmS p.k p.n) p (exL false kids) (exL true alts))) e u:=by
 have g0:=gal w (.cells #[.int .i64 p.k,.int .i64 p.n,.slice a1 l1 c1,.slice a2 l2 c2,.slice a3 l3 c3,.slice a4 l4 c4,.slice a5 l5 c5] 36) none;have b0:=heap_alloc_new w (.cells #[.int .i64 p.k,.int .i64 p.n,.slice a1 l1 c1,.slice a2 l2 c2,.slice a3 l3 c3,.slice a4 l4 c4,.slice a5 l5 c5] 36)
 have hqq:w.heap.size≠q:=fun e=>by have:=lt_of_block hW.box;omega
 have hqlt:=lt_of_block hW.box;have hBw:=hb.size
 have HB:Hid (∀ u,FrP W0.heap.size q w u→Below W0.heap.size W0 u):=fun u hu=>hb.trans hu.below
 have f0:FrP W0.heap.size q w (w.alloc (.cells #[.int .i64 p.k,.int .i64 p.n,.slice a1 l1 c1,.slice a2 l2 c2,.slice a3 l3 c3,.slice a4 l4 c4,.slice a5 l5 c5] 36)):=FrP.grown g0 hb.size;obtain ⟨TX,NF,-,GK,GA⟩:=exX_all ho;have HT:Hid (TxF (frmW p.k p.n) (frmS p.k p.n) p (exL false kids) (exL true alts)):=TX;have hwh:=NF.whole;have HF:Hid (NdF p kids.len alts.len):=NF;have HO:Hid (okE p kids alts d=true):=ho;have HD:Hid (NdE W0 p kids alts a1 l1 c1 a2 l2 c2 a3 l3 c3 a4 l4 c4 a5 l5 c5):=h;have HBs:Hid (Bas W0):=hbas;have IH:Hid _:=IH0;have C0:Hid _:=formOfT p.k p.n (.slice a1 l1 c1) (.slice a2 l2 c2) (.slice a3 l3 c3) (.slice a4 l4 c4) (.slice a5 l5 c5) (w.alloc (.cells #[.int .i64 p.k,.int .i64 p.n,.slice a1 l1 c1,.slice a2 l2 c2,.slice a3 l3 c3,.slice a4 l4 c4,.slice a5 l5 c5] 36)) (hbas.formsAt (HB.out _ f0));have hks:=exL_len false kids;have hrs:=exL_len true alts;have hk4:=h.2.2.2.1.1;have hk5:=h.2.2.2.2.1
 have hk4b:=h.2.2.2.1.2.1;have hk5b:=h.2.2.2.2.2.1;obtain ⟨ks,hksd⟩:∃ ks,exL false kids=ks:=⟨_,rfl⟩;obtain ⟨rs,hrsd⟩:∃ rs,exL true alts=rs:=⟨_,rfl⟩;have HKS:Hid (exL false kids=ks∧exL true alts=rs):=⟨hksd,hrsd⟩;have AL:Hid (WrP W0.heap.size q dv (w.alloc (.cells #[.int .i64 p.k,.int .i64 p.n,.slice a1 l1 c1,.slice a2 l2 c2,.slice a3 l3 c3,.slice a4 l4 c4,.slice a5 l5 c5] 36)) v zs∧FrP W0.heap.size q w (w.alloc (.cells #[.int .i64 p.k,.int .i64 p.n,.slice a1 l1 c1,.slice a2 l2 c2,.slice a3 l3 c3,.slice a4 l4 c4,.slice a5 l5 c5] 36))∧(w.alloc (.cells #[.int .i64 p.k,.int .i64 p.n,.slice a1 l1 c1,.slice a2 l2 c2,.slice a3 l3 c3,.slice a4 l4 c4,.slice a5 l5 c5] 36)).heap[w.heap.size]? = some (.cells #[.int .i64 p.k,.int .i64 p.n,.slice a1 l1 c1,.slice a2 l2 c2,.slice a3 l3 c3,.slice a4 l4 c4,.slice a5 l5 c5] 36 (0,0))):=⟨hW.grown g0,f0,b0⟩
 have GT:Hid (inB2 (frmW p.k p.n) (frmS p.k p.n) p (exL false kids) (exL true alts)=inB2 (frmW p.k p.n) (frmS p.k p.n) p ks rs):=by show _=_;rw[hksd,hrsd]
 rw[hksd,hrsd] at HT hlen;rw[hksd] at hks;rw[hrsd] at hrs;clear h ho hb hW g0 b0 f0 IH0 hbas TX NF GK GA hksd hrsd;go_enter Tryz.func109,Tryz.ntmps109;go_upto_region 1 with fail;obtain ⟨q1,hq1d⟩:∃ q1,q1=w.heap.size:=⟨_,rfl⟩
 have hq1w:w.heap.size≤q1:=by omega
 obtain ⟨⟨y0,y1,y2,y3,y4,y5,y6⟩,-⟩:=blkE AL.out.2.2;generalize w.alloc (.cells #[.int .i64 p.k,.int .i64 p.n,.slice a1 l1 c1,.slice a2 l2 c2,.slice a3 l3 c3,.slice a4 l4 c4,.slice a5 l5 c5] 36)=w1 at *;rw[← hq1d] at AL y0 y1 y2 y3 y4 y5 y6 hqq;have hq1:q1≠q:=hqq;rw[← hq1d];clear hq1d;go_wp2_with fail;refine Calls.mono C0.out ?_;rintro e u0 ⟨he,hg⟩;unfold FoA at he;have HW2:Hid (frmW p.k p.n=ofB (formR p.k p.n).1.data.toList∧frmS p.k p.n=ofB (formR p.k p.n).2.2.2.data.toList):=⟨rfl,rfl⟩;generalize (formV p.k p.n).isSome=okb at *;generalize formR p.k p.n=f at *;obtain ⟨wd,kk0,nn0,s⟩:=f;simp only at he HW2;subst he;have ga:=gal u0 (.cells #[.string wd,.int .i64 kk0,.int .i64 nn0,.string s] 129) none;have ba:=heap_alloc_new u0 (.cells #[.string wd,.int .i64 kk0,.int .i64 nn0,.string s] 129)
 have A1:Hid (WrP W0.heap.size q dv (u0.alloc (.cells #[.string wd,.int .i64 kk0,.int .i64 nn0,.string s] 129)) v zs∧FrP W0.heap.size q w (u0.alloc (.cells #[.string wd,.int .i64 kk0,.int .i64 nn0,.string s] 129))∧(u0.alloc (.cells #[.string wd,.int .i64 kk0,.int .i64 nn0,.string s] 129)).heap[q1]? = some (.cells #[.int .i64 p.k,.int .i64 p.n,.slice a1 l1 c1,.slice a2 l2 c2,.slice a3 l3 c3,.slice a4 l4 c4,.slice a5 l5 c5] 36 (0,0))∧(u0.alloc (.cells #[.string wd,.int .i64 kk0,.int .i64 nn0,.string s] 129)).heap[u0.heap.size]? = some (.cells #[.string wd,.int .i64 kk0,.int .i64 nn0,.string s] 129 (0,0))):=by
  have g1:=gtr hg ga;exact ⟨AL.out.1.grown g1,AL.out.2.1.trans (FrP.grown g1 AL.out.1.size),(g1.block _ (lt_of_block AL.out.2.2) (by simp)).trans AL.out.2.2,ba⟩
 have hq2:u0.heap.size≠q:=fun e=>by have:=lt_of_block (AL.out.1.grown hg).box;omega
 obtain ⟨sl,hsl⟩:∃ sl,ofB s.data.toList=sl:=⟨_,rfl⟩
 have hslen:sl.length=s.size:=by rw[← hsl,ofB_len,Array.length_toList];rfl
 obtain ⟨T,hTd⟩:∃ T,inB2 (frmW p.k p.n) (frmS p.k p.n) p ks rs=T:=⟨_,rfl⟩
 have HTT:Hid (inB2 (frmW p.k p.n) (frmS p.k p.n) p (exL false kids) (exL true alts)=T):=by show _=_;rw[GT.out,hTd]
 have HT3:Hid (T=wdB (ofB wd.data.toList)++itsB p ks rs sl 0):=by show _=_;rw[← hTd,HW2.out.1,HW2.out.2,hsl];rfl
 have HA:Hid ((∀ j,j < sl.length→sl.getD j 0=107→(sl.take j).count 107 < ks.length)∧(∀ z ∈ sl,0≤z∧z < 128)∧ofB s.data.toList=sl∧(okb=okb)):=by
  have h1:=HT.out.kid;have h2:=HT.out.asc;rw[HW2.out.2,hsl] at h1 h2;exact ⟨h1,h2,hsl,rfl⟩
 rw[hTd] at hlen;clear C0 hg AL ga ba y0 y1 y2 y3 y4 y5 y6 hsl hTd GT HT HW2;obtain ⟨⟨z0,z1,z2,z3⟩,hfz⟩:=blkF A1.out.2.2.2;have zf0:=hfz 0;have zf1:=hfz 1;have zf2:=hfz 2;have zf3:=hfz 3;clear hfz;simp only[];go_upto_if 20 with fail;generalize u0.alloc (.cells #[.string wd,.int .i64 kk0,.int .i64 nn0,.string s] 129)=w2 at *;obtain ⟨q2,hq2d⟩:∃ q2,q2=u0.heap.size:=⟨_,rfl⟩;simp only[← hq2d] at *;clear hq2d zf0 zf1 zf2 zf3
 go_cut [] (fun wx=>∃ v1,Hid (WrP W0.heap.size q dv wx v1 (putZ zs (wdB (ofB wd.data.toList)))∧FrP W0.heap.size q w wx∧wx.heap[q1]? = some (.cells #[.int .i64 p.k,.int .i64 p.n,.slice a1 l1 c1,.slice a2 l2 c2,.slice a3 l3 c3,.slice a4 l4 c4,.slice a5 l5 c5] 36 (0,0))∧wx.heap[q2]? = some (.cells #[.string wd,.int .i64 kk0,.int .i64 nn0,.string s] 129 (0,0))))
 case first =>
  cases hem:wd.toList.isEmpty with
  | true =>
   have E0:Hid (zs=putZ zs (wdB (ofB wd.data.toList))):=by show _=_;rw[str_nil hem];rfl
   go_wp2_with fail;go_meet;exact ⟨v,A1.out.1.as E0.out,A1.out.2⟩
  | false =>
   have hwl:=str_some hem;have C1:Hid _:=wordT W0.heap.size q dv v zs wd (ofB wd.data.toList) w2 A1.out.1 rfl (by have:=putZ_part (D:=[]) zs (t:=ofB wd.data.toList) (E:=itsB p ks rs sl 0) (T:=T) (by rw[HT3.out];unfold wdB;rw[if_neg hwl];rfl);simp only[putZ] at this;omega)
   have E1:Hid (gapZ zs++ofB wd.data.toList=putZ zs (wdB (ofB wd.data.toList))):=by show _=_;unfold wdB;rw[if_neg hwl];rfl
   clear hwl;go_wp2_with fail;refine Calls.mono C1.out ?_;rintro e u3 ⟨rfl,v3,hW,hF⟩;have A2:Hid (WrP W0.heap.size q dv u3 v3 (putZ zs (wdB (ofB wd.data.toList)))∧FrP W0.heap.size q w u3∧u3.heap[q1]? = some (.cells #[.int .i64 p.k,.int .i64 p.n,.slice a1 l1 c1,.slice a2 l2 c2,.slice a3 l3 c3,.slice a4 l4 c4,.slice a5 l5 c5] 36 (0,0))∧u3.heap[q2]? = some (.cells #[.string wd,.int .i64 kk0,.int .i64 nn0,.string s] 129 (0,0))):=⟨hW.as E1.out,A1.out.2.1.trans hF,hF.cells A1.out.2.2.1 (by decide) hq1,hF.cells A1.out.2.2.2 (by decide) hq2⟩;clear C1 hW hF A1 z0 z1 z2 z3;go_wp2_with fail;go_meet;exact ⟨v3,A2⟩
 case rest =>
 obtain ⟨v1,A2⟩:=hcut;clear A1 z0 z1 z2 z3;obtain ⟨⟨z0,z1,z2,z3⟩,-⟩:=blkF A2.out.2.2.2;go_upto_region 5 with fail;obtain ⟨q3,hq3d⟩:∃ q3,q3=wc.heap.size:=⟨_,rfl⟩;have gi:=gal wc (.stringIter s 0) none;have bi:(wc.alloc (.stringIter s 0)).heap[wc.heap.size]? = some (.stringIter s 0):=heap_alloc_new wc _
 have hq3w:w.heap.size≤q3:=by have:=A2.out.2.1.below.size;have h8:=lt_of_block A2.out.2.2.1;omega
 have hq3:q3≠q:=fun e=>by have:=lt_of_block A2.out.1.box;omega
 have A3:Hid (InsS W0.heap.size q dv w q1 q3 #[.int .i64 p.k,.int .i64 p.n,.slice a1 l1 c1,.slice a2 l2 c2,.slice a3 l3 c3,.slice a4 l4 c4,.slice a5 l5 c5] s 0 (wc.iter s 0) v1 (putZ zs (wdB (ofB wd.data.toList)))):=⟨A2.out.1.grown gi,A2.out.2.1.trans (FrP.grown gi A2.out.1.size),(gi.block _ (lt_of_block A2.out.2.2.1) (by simp)).trans A2.out.2.2.1,by rw[hq3d];exact bi⟩;clear gi bi;go_wp2;rw[← hq3d];clear hq3d z0 z1 z2 z3 A2;generalize wc.iter s 0=w3 at *
 go_loopw [6] (fun kv wr=>∃ (j i:Nat) (D:List (List Int)) (v1:Value),j≤s.size∧kv = .int .i64 i∧i=(sl.take j).count 107∧Hid (D++itsB p ks rs (sl.drop j) i=T)∧Hid (InsS W0.heap.size q dv w q1 q3 #[.int .i64 p.k,.int .i64 p.n,.slice a1 l1 c1,.slice a2 l2 c2,.slice a3 l3 c3,.slice a4 l4 c4,.slice a5 l5 c5] s j wr v1 (putZ zs D))) (fun _ wr=>s.size - wr.iterPos q3)
 case atStart=>exact ⟨0,0,wdB (ofB wd.data.toList),v1,Nat.zero_le _,rfl,by simp,by show _=_;rw[HT3.out];simp,A3⟩
 case round =>
  clear A3;obtain ⟨j,i,D,v1,hj,rfl,hi,HI0,AL0⟩:=hrel;by_cases hp:j < s.size
  ·
   have hjl:j < sl.length:=by omega
   have hsa:=HA.out.2.1;rw[← HA.out.2.2.1] at hsa;obtain ⟨ha,hz1,hdr⟩:=str_ascii hsa hp;rw[HA.out.2.2.1] at hz1 hdr;have IT:Hid (wr.heap[q3]? = some (.stringIter s j)):=AL0.out.it
   have hnx0:∀ ty,(Instr.next (.pointer (some ⟨q3,0,none⟩)) true ty).run Tryz.prog wr = .ok (.tuple #[.bool true,.int .i64 j,.int .i32 (((s[j]'hp).toNat:Nat):Int)]) (wr.iterAt q3 s (j+1)):=fun ty=>Lib.run_next_ascii_at wr q3 s j ty AL0.out.it hp ha
   obtain ⟨z,hzd⟩:∃ z:Int,z=(((s[j]'hp).toNat:Nat):Int):=⟨_,rfl⟩;rw[← hzd] at hz1 hdr
   have hnx:∀ ty,(Instr.next (.pointer (some ⟨q3,0,none⟩)) true ty).run Tryz.prog wr = .ok (.tuple #[.bool true,.int .i64 j,.int .i32 z]) (wr.iterAt q3 s (j+1)):=by rw[hzd];exact hnx0
   have AL:Hid (InsS W0.heap.size q dv w q1 q3 #[.int .i64 p.k,.int .i64 p.n,.slice a1 l1 c1,.slice a2 l2 c2,.slice a3 l3 c3,.slice a4 l4 c4,.slice a5 l5 c5] s (j+1) (wr.iterAt q3 s (j+1)) v1 (putZ zs D)):=AL0.out.next hq3w hBw (j+1)
   have HI:Hid (D++(itB p ks rs i z++itsB p ks rs (sl.drop (j+1)) (nxB z i))=T):=by
    show _=_
    have:=HI0.out;rw[hdr,its_step] at this;exact this
   have HJ:Hid ((sl.take (j+1)).count 107=nxB z i):=by show _=_;rw[count_next hjl,← hz1,← hi]
   have HK:Hid (z=107→i < ks.length):=fun e=>by rw[hi];exact HA.out.1 j hjl (by rw[← hz1];exact e)
   obtain ⟨wi,hwi⟩:∃ wi,wi=wr.iterAt q3 s (j+1):=⟨_,rfl⟩;rw[← hwi] at AL hnx;obtain ⟨⟨y0,y1,y2,y3,y4,y5,y6⟩,-⟩:=blkE AL.out.box
   have hzr:0≤z∧z < 128:=by omega
   clear AL0 HI0 hsa ha hz1 hdr hnx0 hzd hi hwi;go_upto_region 9 with fail;clear hnx;by_cases h105:z=105
   ·
    subst h105;have hit:itB p ks rs i 105=[intB p.n]:=rfl;have hn0:nxB 105 i=i:=rfl;rw[hit,hn0] at HI;rw[hn0] at HJ
    have hnr:-9223372036854775808≤p.n∧p.n≤9223372036854775807:=by
     rcases HF.out.form with e|e
     ·
      have:=HF.out.whole e;simp only[wholeV,Bool.and_eq_true,decide_eq_true_eq] at this;omega
     ·
      omega
    have C0:Hid _:=itoaT p.n hnr.1 hnr.2 W0 wi HBs.out (HB.out _ AL.out.fr);go_wp2_with fail;refine Calls.mono C0.out ?_;rintro e u8 ⟨st,rfl,hst,hg⟩;have A8:Hid (InsS W0.heap.size q dv w q1 q3 #[.int .i64 p.k,.int .i64 p.n,.slice a1 l1 c1,.slice a2 l2 c2,.slice a3 l3 c3,.slice a4 l4 c4,.slice a5 l5 c5] s (j+1) u8 v1 (putZ zs D)):=AL.out.grown hg;have C1:Hid _:=wordT W0.heap.size q dv v1 (putZ zs D) st (intB p.n) u8 A8.out.wr hst (by have:=putZ_part zs (t:=intB p.n) HI.out;omega);clear C0 hst hg y0 y1 y2 y3 y4 y5 y6;simp only[];go_wp2_with fail;refine Calls.mono C1.out ?_;rintro e u9 ⟨rfl,v9,hW,hF⟩;have AN:Hid (InsS W0.heap.size q dv w q1 q3 #[.int .i64 p.k,.int .i64 p.n,.slice a1 l1 c1,.slice a2 l2 c2,.slice a3 l3 c3,.slice a4 l4 c4,.slice a5 l5 c5] s (j+1) u9 v9 (putZ zs (D++[intB p.n]))):=(A8.out.step hq1 hq3 hW hF).as (putZ_snoc D zs _).symm
    have FN:Hid ((D++[intB p.n])++itsB p ks rs (sl.drop (j+1)) i=T):=by show _=_;rw[← HI.out];simp
    clear C1 hW hF AL HI;simp only[];go_wp2;go_roundw
    case rel=>exact ⟨j+1,i,D++[intB p.n],v9,by omega,rfl,HJ.out.symm,FN,AN⟩
    case measure=>simp only[iterPos_ofK AN.out.it,iterPos_ofK IT.out];omega
   by_cases h116:z=116
   ·
    subst h116;have hit:itB p ks rs i 116=[[34]++p.lit++[34]]:=rfl;have hn0:nxB 116 i=i:=rfl;rw[hit,hn0] at HI;rw[hn0] at HJ;have hcv:(convert 23 9 (.slice a3 l3 c3)).run Tryz.prog wi = .ok (.string (strOfNums p.lit)) wi:=conv_run (HD.out.2.2.1.le (cle_belowK (HB.out _ AL.out.fr))).1;have hst:=ofB_str HD.out.2.2.1.2.1
    have hls:(strOfNums p.lit).size≤20:=by rw[str_size];exact HF.out.lit
    generalize strOfNums p.lit=sst at *;have C1:Hid _:=wordT W0.heap.size q dv v1 (putZ zs D) (({ data:=#[34] }:ByteArray)++sst++({ data:=#[34] }:ByteArray)) ([34]++p.lit++[34]) wi AL.out.wr (by rw[ofB_cat,ofB_cat,hst];rfl) (by have:=putZ_part zs (t:=[34]++p.lit++[34]) HI.out;omega);clear hst;go_wp2_with fail;refine Calls.mono C1.out ?_;rintro e u9 ⟨rfl,v9,hW,hF⟩;have AN:Hid (InsS W0.heap.size q dv w q1 q3 #[.int .i64 p.k,.int .i64 p.n,.slice a1 l1 c1,.slice a2 l2 c2,.slice a3 l3 c3,.slice a4 l4 c4,.slice a5 l5 c5] s (j+1) u9 v9 (putZ zs (D++[[34]++p.lit++[34]]))):=(AL.out.step hq1 hq3 hW hF).as (putZ_snoc D zs _).symm
    have FN:Hid ((D++[[34]++p.lit++[34]])++itsB p ks rs (sl.drop (j+1)) i=T):=by show _=_;rw[← HI.out];simp
    clear C1 hW hF AL HI;simp only[];go_wp2;go_roundw
    case rel=>exact ⟨j+1,i,D++[[34]++p.lit++[34]],v9,by omega,rfl,HJ.out.symm,FN,AN⟩
    case measure=>simp only[iterPos_ofK AN.out.it,iterPos_ofK IT.out];omega
   by_cases h110:z=110
   ·
    subst h110;have hit:itB p ks rs i 110=[p.name]:=rfl;have hn0:nxB 110 i=i:=rfl;rw[hit,hn0] at HI;rw[hn0] at HJ;have hcv:(convert 23 9 (.slice a1 l1 c1)).run Tryz.prog wi = .ok (.string (strOfNums p.name)) wi:=conv_run (HD.out.1.le (cle_belowK (HB.out _ AL.out.fr))).1;have hst:=ofB_str HD.out.1.2.1;generalize strOfNums p.name=sst at *;have C1:Hid _:=wordT W0.heap.size q dv v1 (putZ zs D) sst p.name wi AL.out.wr hst (by have:=putZ_part zs (t:=p.name) HI.out;omega);clear hst;go_wp2_with fail;refine Calls.mono C1.out ?_;rintro e u9 ⟨rfl,v9,hW,hF⟩;have AN:Hid (InsS W0.heap.size q dv w q1 q3 #[.int .i64 p.k,.int .i64 p.n,.slice a1 l1 c1,.slice a2 l2 c2,.slice a3 l3 c3,.slice a4 l4 c4,.slice a5 l5 c5] s (j+1) u9 v9 (putZ zs (D++[p.name]))):=(AL.out.step hq1 hq3 hW hF).as (putZ_snoc D zs _).symm
    have FN:Hid ((D++[p.name])++itsB p ks rs (sl.drop (j+1)) i=T):=by show _=_;rw[← HI.out];simp
    clear C1 hW hF AL HI;simp only[];go_wp2;go_roundw
    case rel=>exact ⟨j+1,i,D++[p.name],v9,by omega,rfl,HJ.out.symm,FN,AN⟩
    case measure=>simp only[iterPos_ofK AN.out.it,iterPos_ofK IT.out];omega
   by_cases h103:z=103
   ·
    subst h103;have hit:itB p ks rs i 103=[p.name]:=rfl;have hn0:nxB 103 i=i:=rfl;rw[hit,hn0] at HI;rw[hn0] at HJ;have hcv:(convert 23 9 (.slice a1 l1 c1)).run Tryz.prog wi = .ok (.string (strOfNums p.name)) wi:=conv_run (HD.out.1.le (cle_belowK (HB.out _ AL.out.fr))).1;have hst:=ofB_str HD.out.1.2.1;generalize strOfNums p.name=sst at *;have C1:Hid _:=wordT W0.heap.size q dv v1 (putZ zs D) sst p.name wi AL.out.wr hst (by have:=putZ_part zs (t:=p.name) HI.out;omega);clear hst;go_wp2_with fail;refine Calls.mono C1.out ?_;rintro e u9 ⟨rfl,v9,hW,hF⟩;have AN:Hid (InsS W0.heap.size q dv w q1 q3 #[.int .i64 p.k,.int .i64 p.n,.slice a1 l1 c1,.slice a2 l2 c2,.slice a3 l3 c3,.slice a4 l4 c4,.slice a5 l5 c5] s (j+1) u9 v9 (putZ zs (D++[p.name]))):=(AL.out.step hq1 hq3 hW hF).as (putZ_snoc D zs _).symm
    have FN:Hid ((D++[p.name])++itsB p ks rs (sl.drop (j+1)) i=T):=by show _=_;rw[← HI.out];simp
    clear C1 hW hF AL HI;simp only[];go_wp2;go_roundw
    case rel=>exact ⟨j+1,i,D++[p.name],v9,by omega,rfl,HJ.out.symm,FN,AN⟩
    case measure=>simp only[iterPos_ofK AN.out.it,iterPos_ofK IT.out];omega
   by_cases h97:z=97
   ·
    subst h97;have hit:itB p ks rs i 97=[p.arg]:=rfl;have hn0:nxB 97 i=i:=rfl;rw[hit,hn0] at HI;rw[hn0] at HJ;have hcv:(convert 23 9 (.slice a2 l2 c2)).run Tryz.prog wi = .ok (.string (strOfNums p.arg)) wi:=conv_run (HD.out.2.1.le (cle_belowK (HB.out _ AL.out.fr))).1;have hst:=ofB_str HD.out.2.1.2.1;generalize strOfNums p.arg=sst at *;have C1:Hid _:=wordT W0.heap.size q dv v1 (putZ zs D) sst p.arg wi AL.out.wr hst (by have:=putZ_part zs (t:=p.arg) HI.out;omega);clear hst;go_wp2_with fail;refine Calls.mono C1.out ?_;rintro e u9 ⟨rfl,v9,hW,hF⟩;have AN:Hid (InsS W0.heap.size q dv w q1 q3 #[.int .i64 p.k,.int .i64 p.n,.slice a1 l1 c1,.slice a2 l2 c2,.slice a3 l3 c3,.slice a4 l4 c4,.slice a5 l5 c5] s (j+1) u9 v9 (putZ zs (D++[p.arg]))):=(AL.out.step hq1 hq3 hW hF).as (putZ_snoc D zs _).symm
    have FN:Hid ((D++[p.arg])++itsB p ks rs (sl.drop (j+1)) i=T):=by show _=_;rw[← HI.out];simp
    clear C1 hW hF AL HI;simp only[];go_wp2;go_roundw
    case rel=>exact ⟨j+1,i,D++[p.arg],v9,by omega,rfl,HJ.out.symm,FN,AN⟩
    case measure=>simp only[iterPos_ofK AN.out.it,iterPos_ofK IT.out];omega
   by_cases h107:z=107
   ·
    subst h107;have hit:itB p ks rs i 107=[ks.getD i []]:=rfl;have hn0:nxB 107 i=i+1:=rfl;rw[hit,hn0] at HI;rw[hn0] at HJ;have hik:=HK.out rfl
    have hil:i < l4:=by omega
    have hoo:=HO.out;simp only[okE,Bool.and_eq_true] at hoo;rcases HD.out.2.2.2.1.cases with ⟨e0,-⟩|⟨b,o,ea,hin,-⟩
    ·
     omega
    subst ea;obtain ⟨pp,kk,aa,b1,m1,n1,b2,m2,n2,b3,m3,n3,b4,m4,n4,b5,m5,n5,hcel,hnd,hex,hcn,hok⟩:=hin.nthK (i:=i) (by omega) hoo.1.2;obtain ⟨k0,k1,k2,k3,k4,k5,k6⟩:=hcel.le (cle_belowK (HB.out _ AL.out.fr));rw[HKS.out.1] at hex;rw[hex] at HI;have C1:Hid _:=IH.out pp kk aa b1 m1 n1 b2 m2 n2 b3 m3 n3 b4 m4 n4 b5 m5 n5 v1 (putZ zs D) wi (d - 1) (by omega) hnd hok (HB.out _ AL.out.fr) AL.out.wr (by have:=putZ_part zs (t:=exX pp kk aa) HI.out;omega);clear hcel hnd hex hok hin hoo hit hn0;go_wp2_with fail;refine Calls.mono C1.out ?_;rintro e u9 ⟨rfl,v9,hW,hF⟩;have AN:Hid (InsS W0.heap.size q dv w q1 q3 #[.int .i64 p.k,.int .i64 p.n,.slice a1 l1 c1,.slice a2 l2 c2,.slice a3 l3 c3,.slice (some ⟨b,o,none⟩) l4 c4,.slice a5 l5 c5] s (j+1) u9 v9 (putZ zs (D++[exX pp kk aa]))):=(AL.out.step hq1 hq3 hW hF).as (putZ_snoc D zs _).symm
    have FN:Hid ((D++[exX pp kk aa])++itsB p ks rs (sl.drop (j+1)) (i+1)=T):=by show _=_;rw[← HI.out];simp
    clear C1 hW hF AL HI k0 k1 k2 k3 k4 k5 k6 y0 y1 y2 y3 y4 y5 y6;simp only[];go_wp2;go_roundw
    case rel=>exact ⟨j+1,i+1,D++[exX pp kk aa],v9,by omega,by go_num,HJ.out.symm,FN,AN⟩
    case measure=>simp only[iterPos_ofK AN.out.it,iterPos_ofK IT.out];omega
   by_cases h102:z=102
   ·
    subst h102;have hit:itB p ks rs i 102=ks:=rfl;have hn0:nxB 102 i=i:=rfl;rw[hit,hn0] at HI;rw[hn0] at HJ;have hoo:=HO.out;simp only[okE,Bool.and_eq_true] at hoo;have IN:Hid (okG kids (d - 1)=true∧SlGE W0 false a4 l4 c4 kids):=⟨hoo.1.2,HD.out.2.2.2.1⟩;clear hoo hit hn0;go_wp2;clear y0 y1 y2 y3 y4 y5 y6
    go_loopw [79] (fun ii wr2=>∃ (j2:Nat) (R:GE) (E:List (List Int)) (v2:Value),j2≤l4∧ii = .int .i64 j2∧R.len+j2=l4∧R.cnt≤kids.cnt∧Hid ((R = .nil∨∃ b o,a4=some ⟨b,o,none⟩∧InGE W0 W0 false R b (o+j2 * 7))∧okG R (d - 1)=true∧(D++E)++(exL false R++itsB p ks rs (sl.drop (j+1)) i)=T)∧Hid (InsS W0.heap.size q dv w q1 q3 #[.int .i64 p.k,.int .i64 p.n,.slice a1 l1 c1,.slice a2 l2 c2,.slice a3 l3 c3,.slice a4 l4 c4,.slice a5 l5 c5] s (j+1) wr2 v2 (putZ zs (D++E)))) (fun ii _=>l4 - (intOf ii).toNat)
    case atStart =>
     refine ⟨0,kids,[],v1,Nat.zero_le _,rfl,by omega,Nat.le_refl _,⟨?_,IN.out.1,by rw[List.append_nil,HKS.out.1];exact HI.out⟩,by rw[List.append_nil];exact AL⟩;rcases IN.out.2.cases with ⟨-,e⟩|⟨b,o,e,hin,-⟩
     ·
      exact .inl e
     ·
      exact .inr ⟨b,o,e,by simpa using hin⟩
    case round =>
     clear AL HI IN;obtain ⟨j2,R,E,v2,hj2,rfl,hRl,hRc,HR,A2⟩:=hrel;by_cases hlt:j2 < l4
     ·
      have hlt':(j2:Int) < l4:=by omega
      obtain ⟨q',hq'⟩:∃ q',R.len=q' + 1:=⟨R.len - 1,by omega⟩;obtain ⟨hR,hokR,hP⟩:=HR.out;rcases hR with e|⟨b,o,ea,hin⟩
      ·
       rw[e] at hq';simp [GE.len] at hq'
      obtain ⟨hc,hv,pp,kk,aa,R',rfl,hR'⟩:=GE.cons_of_len hq';simp only[GE.cnt] at hRc;simp only[GE.len] at hRl;have hoR:=okG_one hokR;obtain ⟨-,b1,m1,n1,b2,m2,n2,b3,m3,n3,b4,m4,n4,b5,m5,n5,hcel,hnd,hR2⟩:=hin.kid;rw[show o+j2 * 7+7=o+(j2+1) * 7 by omega] at hR2;obtain ⟨k0,k1,k2,k3,k4,k5,k6⟩:=hcel.le (cle_belowK (HB.out _ A2.out.fr));clear hcel;have ga:=gal wr (.cells #[.int .i64 pp.k,.int .i64 pp.n,.slice b1 m1 n1,.slice b2 m2 n2,.slice b3 m3 n3,.slice b4 m4 n4,.slice b5 m5 n5] 36) none;have ba:=heap_alloc_new wr (.cells #[.int .i64 pp.k,.int .i64 pp.n,.slice b1 m1 n1,.slice b2 m2 n2,.slice b3 m3 n3,.slice b4 m4 n4,.slice b5 m5 n5] 36);have A5:Hid (InsS W0.heap.size q dv w q1 q3 #[.int .i64 p.k,.int .i64 p.n,.slice a1 l1 c1,.slice a2 l2 c2,.slice a3 l3 c3,.slice a4 l4 c4,.slice a5 l5 c5] s (j+1) (wr.alloc (.cells #[.int .i64 pp.k,.int .i64 pp.n,.slice b1 m1 n1,.slice b2 m2 n2,.slice b3 m3 n3,.slice b4 m4 n4,.slice b5 m5 n5] 36)) v2 (putZ zs (D++E))):=A2.out.grown ga
      have hP2:(D++E)++exX pp kk aa::(exL false R'++itsB p ks rs (sl.drop (j+1)) i)=T:=hP;have C1:Hid _:=IH.out pp kk aa b1 m1 n1 b2 m2 n2 b3 m3 n3 b4 m4 n4 b5 m5 n5 v2 (putZ zs (D++E)) _ (d - 1) (by omega) hnd hoR.1 (HB.out _ A5.out.fr) A5.out.wr (by have:=putZ_part zs (t:=exX pp kk aa) hP2;omega);have FX:Hid ((R' = .nil∨∃ b o,a4=some ⟨b,o,none⟩∧InGE W0 W0 false R' b (o+(j2+1) * 7))∧okG R' (d - 1)=true∧(D++(E++[exX pp kk aa]))++(exL false R'++itsB p ks rs (sl.drop (j+1)) i)=T):=⟨.inr ⟨b,o,ea,hR2⟩,hoR.2,by rw[← hP2];simp⟩;obtain ⟨⟨r0,r1,r2,r3,r4,r5,r6⟩,hfz⟩:=blkE ba;have rf:=hfz 0;clear hfz;clear HR hokR hP hP2 hin hnd hR2 ga ba hoR A2;subst ea;go_wp2_with fail;refine Calls.mono C1.out ?_;rintro e u9 ⟨rfl,v9,hW,hF⟩;have AN:Hid (InsS W0.heap.size q dv w q1 q3 #[.int .i64 p.k,.int .i64 p.n,.slice a1 l1 c1,.slice a2 l2 c2,.slice a3 l3 c3,.slice (some ⟨b,o,none⟩) l4 c4,.slice a5 l5 c5] s (j+1) u9 v9 (putZ zs (D++(E++[exX pp kk aa])))):=(A5.out.step hq1 hq3 hW hF).as (by rw[← List.append_assoc];exact (putZ_snoc (D++E) zs _).symm)
      clear C1 hW hF A5;simp only[];go_wp2;go_roundw
      case rel=>exact ⟨j2+1,R',E++[exX pp kk aa],v9,by omega,by go_num,by omega,by omega,FX,AN⟩
      case measure=>simp [intOf];omega
     ·
      obtain rfl:j2=l4:=by omega
      obtain rfl:R = .nil:=GE.nil_of_len (by omega);obtain ⟨-,-,hP⟩:=HR.out
      have FN:Hid ((D++E)++itsB p ks rs (sl.drop (j+1)) i=T):=by show _=_;rw[← hP];rfl
      clear HR hP;go_wp2;go_roundw
      case rel=>exact ⟨j+1,i,D++E,v2,by omega,rfl,HJ.out.symm,FN,A2⟩
      case measure=>simp only[iterPos_ofK A2.out.it,iterPos_ofK IT.out];omega
   by_cases h109:z=109
   ·
    subst h109;have hit:itB p ks rs i 109=rs:=rfl;have hn0:nxB 109 i=i:=rfl;rw[hit,hn0] at HI;rw[hn0] at HJ;have hoo:=HO.out;simp only[okE,Bool.and_eq_true] at hoo;have IN:Hid (okG alts (d - 1)=true∧SlGE W0 true a5 l5 c5 alts∧badA alts=false):=⟨hoo.2,HD.out.2.2.2.2,okN_arms hoo.1.1.2⟩;clear hoo hit hn0;go_wp2;clear y0 y1 y2 y3 y4 y5 y6
    go_loopw [92] (fun ii wr2=>∃ (j2:Nat) (R:GE) (E:List (List Int)) (v2:Value),j2≤l5∧ii = .int .i64 j2∧R.len+j2=l5∧R.cnt≤alts.cnt∧Hid ((R = .nil∨∃ b o,a5=some ⟨b,o,none⟩∧InGE W0 W0 true R b (o+j2 * 9))∧okG R (d - 1)=true∧badA R=false∧(D++E)++(exL true R++itsB p ks rs (sl.drop (j+1)) i)=T)∧Hid (InsS W0.heap.size q dv w q1 q3 #[.int .i64 p.k,.int .i64 p.n,.slice a1 l1 c1,.slice a2 l2 c2,.slice a3 l3 c3,.slice a4 l4 c4,.slice a5 l5 c5] s (j+1) wr2 v2 (putZ zs (D++E)))) (fun ii _=>l5 - (intOf ii).toNat)
    case atStart =>
     refine ⟨0,alts,[],v1,Nat.zero_le _,rfl,by omega,Nat.le_refl _,⟨?_,IN.out.1,IN.out.2.2,by rw[List.append_nil,HKS.out.2];exact HI.out⟩,by rw[List.append_nil];exact AL⟩;rcases IN.out.2.1.cases with ⟨-,e⟩|⟨b,o,e,hin,-⟩
     ·
      exact .inl e
     ·
      exact .inr ⟨b,o,e,by simpa using hin⟩
    case round =>
     clear AL HI IN;obtain ⟨j2,R,E,v2,hj2,rfl,hRl,hRc,HR,A2⟩:=hrel;by_cases hlt:j2 < l5
     ·
      have hlt':(j2:Int) < l5:=by omega
      obtain ⟨q',hq'⟩:∃ q',R.len=q' + 1:=⟨R.len - 1,by omega⟩;obtain ⟨hR,hokR,hbad,hP⟩:=HR.out;rcases hR with e|⟨b,o,ea,hin⟩
      ·
       rw[e] at hq';simp [GE.len] at hq'
      obtain ⟨hc,hv,pp,kk,aa,R',rfl,hR'⟩:=GE.cons_of_len hq';simp only[GE.cnt] at hRc;simp only[GE.len] at hRl;have hoR:=okG_one hokR;have hbb:(!armV hc hv || badA R')=false:=hbad;simp only[Bool.or_eq_false_iff,Bool.not_eq_false'] at hbb;have hbad2:=hbb.2;have haf:=armV_facts hbb.1;clear hbb;obtain ⟨f0,r0,s0,f1,r1,s1,b1,m1,n1,b2,m2,n2,b3,m3,n3,b4,m4,n4,b5,m5,n5,hhd,hgd,hcel,hnd,hR2⟩:=hin.alt;rw[show o+j2 * 9+9=o+(j2+1) * 9 by omega] at hR2;obtain ⟨k0,k1⟩:=hhd.le (cle_belowK (HB.out _ A2.out.fr));obtain ⟨k2,k3,k4,k5,k6,k7,k8⟩:=hcel.le (cle_belowK (HB.out _ A2.out.fr));clear hcel;have ga:=gal wr (.cells #[.slice f0 r0 s0,.slice f1 r1 s1,.int .i64 pp.k,.int .i64 pp.n,.slice b1 m1 n1,.slice b2 m2 n2,.slice b3 m3 n3,.slice b4 m4 n4,.slice b5 m5 n5] 87) none;have ba:=heap_alloc_new wr (.cells #[.slice f0 r0 s0,.slice f1 r1 s1,.int .i64 pp.k,.int .i64 pp.n,.slice b1 m1 n1,.slice b2 m2 n2,.slice b3 m3 n3,.slice b4 m4 n4,.slice b5 m5 n5] 87)
      have A5:Hid (InsS W0.heap.size q dv w q1 q3 #[.int .i64 p.k,.int .i64 p.n,.slice a1 l1 c1,.slice a2 l2 c2,.slice a3 l3 c3,.slice a4 l4 c4,.slice a5 l5 c5] s (j+1) (wr.alloc (.cells #[.slice f0 r0 s0,.slice f1 r1 s1,.int .i64 pp.k,.int .i64 pp.n,.slice b1 m1 n1,.slice b2 m2 n2,.slice b3 m3 n3,.slice b4 m4 n4,.slice b5 m5 n5] 87)) v2 (putZ zs (D++E))):=A2.out.grown ga;have hP2:(D++E)++armX hc hv (exX pp kk aa)::(exL true R'++itsB p ks rs (sl.drop (j+1)) i)=T:=hP;have C1:Hid _:=armPT W0 q dv m IH.out hc hv pp kk aa f0 r0 s0 f1 r1 s1 b1 m1 n1 b2 m2 n2 b3 m3 n3 b4 m4 n4 b5 m5 n5 v2 (putZ zs (D++E)) _ (d - 1) (by omega) hgd.1 hgd.2 hnd haf hoR.1 (HB.out _ A5.out.fr) A5.out.wr (by have:=putZ_part zs (t:=armX hc hv (exX pp kk aa)) hP2;omega);have FX:Hid ((R' = .nil∨∃ b o,a5=some ⟨b,o,none⟩∧InGE W0 W0 true R' b (o+(j2+1) * 9))∧okG R' (d - 1)=true∧badA R' = false∧(D++(E++[armX hc hv (exX pp kk aa)]))++(exL true R'++itsB p ks rs (sl.drop (j+1)) i)=T):=⟨.inr ⟨b,o,ea,hR2⟩,hoR.2,hbad2,by rw[← hP2];simp⟩
      obtain ⟨⟨t0,t1,t2,t3,t4,t5,t6,t7,t8⟩,hfz⟩:=blkEA ba;have rf:=hfz 0;clear hfz haf;clear HR hokR hP hP2 hin hnd hR2 ga ba hoR A2 hbad hbad2 hhd hgd;subst ea;go_wp2_with fail;refine Calls.mono C1.out ?_;rintro e u9 ⟨rfl,v9,hW,hF⟩;have AN:Hid (InsS W0.heap.size q dv w q1 q3 #[.int .i64 p.k,.int .i64 p.n,.slice a1 l1 c1,.slice a2 l2 c2,.slice a3 l3 c3,.slice a4 l4 c4,.slice (some ⟨b,o,none⟩) l5 c5] s (j+1) u9 v9 (putZ zs (D++(E++[armX hc hv (exX pp kk aa)])))):=(A5.out.step hq1 hq3 hW hF).as (by rw[← List.append_assoc];exact (putZ_snoc (D++E) zs _).symm);clear C1 hW hF A5;simp only[];go_wp2;go_roundw
      case rel=>exact ⟨j2+1,R',E++[armX hc hv (exX pp kk aa)],v9,by omega,by go_num,by omega,by omega,FX,AN⟩
      case measure=>simp [intOf];omega
     ·
      obtain rfl:j2=l5:=by omega
      obtain rfl:R = .nil:=GE.nil_of_len (by omega);obtain ⟨-,-,-,hP⟩:=HR.out
      have FN:Hid ((D++E)++itsB p ks rs (sl.drop (j+1)) i=T):=by show _=_;rw[← hP];rfl
      clear HR hP;go_wp2;go_roundw
      case rel=>exact ⟨j+1,i,D++E,v2,by omega,rfl,HJ.out.symm,FN,A2⟩
      case measure=>simp only[iterPos_ofK A2.out.it,iterPos_ofK IT.out];omega
   have hit:itB p ks rs i z=[]:=by unfold itB;rw[if_neg h105,if_neg h116,if_neg h110,if_neg h103,if_neg h97,if_neg h107,if_neg h102,if_neg h109]
   have hn0:nxB z i=i:=by unfold nxB;rw[if_neg h107]
   rw[hit,hn0] at HI;rw[hn0] at HJ
   have e105:(z == 105)=false:=by simpa using h105
   have e116:(z == 116)=false:=by simpa using h116
   have e110:(z == 110)=false:=by simpa using h110
   have e103:(z == 103)=false:=by simpa using h103
   have e97:(z == 97)=false:=by simpa using h97
   have e107:(z == 107)=false:=by simpa using h107
   have e102:(z == 102)=false:=by simpa using h102
   have e109:(z == 109)=false:=by simpa using h109
   clear hit hn0 y0 y1 y2 y3 y4 y5 y6;go_wp2;go_roundw
   case rel=>exact ⟨j+1,i,D,v1,by omega,rfl,HJ.out.symm,HI,AL⟩
   case measure=>simp only[iterPos_ofK AL.out.it,iterPos_ofK IT.out];omega
  ·
   have ej:j=s.size:=by omega
   have hnx:∀ ty,(Instr.next (.pointer (some ⟨q3,0,none⟩)) true ty).run Tryz.prog wr = .ok (.tuple #[.bool false]) wr:=fun ty=>Lib.run_next_end_at wr q3 s j ty AL0.out.it hp
   have E9:Hid (putZ zs D=putZ zs (inB2 (frmW p.k p.n) (frmS p.k p.n) p (exL false kids) (exL true alts))):=by
    show _=_
    have:=HI0.out;rw[List.drop_eq_nil_of_le (by omega)] at this;simp only[itsB,List.append_nil] at this;rw[this,HTT.out]
   have FF:Hid (WrP W0.heap.size q dv wr v1 (putZ zs (inB2 (frmW p.k p.n) (frmS p.k p.n) p (exL false kids) (exL true alts)))∧FrP W0.heap.size q w wr):=⟨AL0.out.wr.as E9.out,AL0.out.fr⟩;clear AL0 HI0 E9 hi;go_wp2
   (try simp only[Exit.inBlock,Exit.then])
   refine bodyPost_end (results_noneK (P:=Tryz.prog) Tryz.results109 _ _) rfl ?_;exact ⟨rfl,v1,FF.out⟩
theorem exprT_of (W0:World) (q:Nat) (dv:Value) (m:Nat) (hbas:Bas W0) (IH0:ExC W0 q dv m):ExC W0 q dv (m+1):=by
 intro p kids alts a1 l1 c1 a2 l2 c2 a3 l3 c3 a4 l4 c4 a5 l5 c5 v zs w d hm h ho hb hW hlen;have g0:=gal w (.cells #[.int .i64 p.k,.int .i64 p.n,.slice a1 l1 c1,.slice a2 l2 c2,.slice a3 l3 c3,.slice a4 l4 c4,.slice a5 l5 c5] 36) none;have b0:=heap_alloc_new w (.cells #[.int .i64 p.k,.int .i64 p.n,.slice a1 l1 c1,.slice a2 l2 c2,.slice a3 l3 c3,.slice a4 l4 c4,.slice a5 l5 c5] 36)
 have hqq:w.heap.size≠q:=fun e=>by have:=lt_of_block hW.box;omega
 have hk4:=h.2.2.2.1.1;obtain ⟨TX,NF,-,GK,GA⟩:=exX_all ho;obtain ⟨T,hT⟩:∃ T,inB2 (frmW p.k p.n) (frmS p.k p.n) p (exL false kids) (exL true alts)=T:=⟨_,rfl⟩;have hgl:=gapZ_len zs
 have hjl:(blz T).length=(joinZ T).length+1:=by
  have:=TX.some;rw[hT] at this
  cases T with
  | nil=>exact absurd rfl this
  | cons t r=>simp only[blz,joinZ,lA,lB];omega
 have hsame:=TX.same;unfold noX at hsame;rw[hT] at hsame;have hgd:=TX.good;have hso:=TX.some;rw[hT] at hgd hso
 have HP:Hid (∀ xs,putZ xs T=gapZ xs++joinZ T):=fun xs=>putZ_join T xs hso hgd
 have hle:(exL false kids).length=l4:=by rw[exL_len];exact hk4
 have HI:Hid (∀ v0 z0 u,Below W0.heap.size W0 u→WrP W0.heap.size q dv u v0 z0→z0.length+(blz T).length≤900000→_):=fun v0 z0 u hbu hWu hl=>by
  have:=insideT W0 q dv m hbas IH0 p kids alts a1 l1 c1 a2 l2 c2 a3 l3 c3 a4 l4 c4 a5 l5 c5 v0 z0 u d hm h ho hbu hWu (by rw[hT];exact hl);rw[hT] at this;exact this
 have AL:Hid (WrP W0.heap.size q dv (w.alloc (.cells #[.int .i64 p.k,.int .i64 p.n,.slice a1 l1 c1,.slice a2 l2 c2,.slice a3 l3 c3,.slice a4 l4 c4,.slice a5 l5 c5] 36)) v zs∧FrP W0.heap.size q w (w.alloc (.cells #[.int .i64 p.k,.int .i64 p.n,.slice a1 l1 c1,.slice a2 l2 c2,.slice a3 l3 c3,.slice a4 l4 c4,.slice a5 l5 c5] 36))∧(w.alloc (.cells #[.int .i64 p.k,.int .i64 p.n,.slice a1 l1 c1,.slice a2 l2 c2,.slice a3 l3 c3,.slice a4 l4 c4,.slice a5 l5 c5] 36)).heap[w.heap.size]? = some (.cells #[.int .i64 p.k,.int .i64 p.n,.slice a1 l1 c1,.slice a2 l2 c2,.slice a3 l3 c3,.slice a4 l4 c4,.slice a5 l5 c5] 36 (0,0))):=⟨hW.grown g0,FrP.grown g0 hb.size,b0⟩
 have HB:Hid (∀ u,FrP W0.heap.size q w u→Below W0.heap.size W0 u):=fun u hu=>hb.trans hu.below
 have HX:Hid (exX p kids alts=(if (exL false kids).length=0 then joinZ T else [40]++joinZ T++[41])):=hsame.symm;rw[HX.out,hle] at hlen;rw[hle] at HX;clear h ho hb hW g0 b0 IH0 hbas TX NF GK GA hsame hgd hso hT;go_enter Tryz.func71,Tryz.ntmps71;go_upto_region 1 with fail;generalize w.alloc (.cells #[.int .i64 p.k,.int .i64 p.n,.slice a1 l1 c1,.slice a2 l2 c2,.slice a3 l3 c3,.slice a4 l4 c4,.slice a5 l5 c5] 36)=w1 at *;obtain ⟨q1,hq1d⟩:∃ q1,q1=w.heap.size:=⟨_,rfl⟩;simp only[← hq1d] at *;clear hq1d;obtain ⟨⟨y0,y1,y2,y3,y4,y5,y6⟩,-⟩:=blkE AL.out.2.2;by_cases h0:l4=0
 ·
  rw[if_pos h0] at hlen HX;have C0:Hid _:=HI.out v zs w1 (HB.out _ AL.out.2.1) AL.out.1 (by omega);rw[HP.out] at C0;subst h0;go_wp2_with fail;refine Calls.mono C0.out ?_;rintro e u1 ⟨rfl,v1,hW,hF⟩;have FF:Hid (WrP W0.heap.size q dv u1 v1 (gapZ zs++exX p kids alts)∧FrP W0.heap.size q w u1):=⟨hW.as (by rw[HX.out]),AL.out.2.1.trans hF⟩;clear C0 hW hF AL y0 y1 y2 y3 y4 y5 y6;simp only[];go_wp2
  (try simp only[Exit.inBlock,Exit.then])
  refine bodyPost_ret (results_noneK (P:=Tryz.prog) Tryz.results71 _ _) rfl ?_;exact ⟨rfl,v1,FF.out⟩
 ·
  rw[if_neg h0] at hlen HX;simp only[lA,List.length_singleton] at hlen
  have h0':¬ (l4:Int)=0:=by omega
  have h0b:((l4:Int) == 0)=false:=by simpa using h0
  have C0:Hid _:=openT2 W0.heap.size q dv v zs w1 AL.out.1 (by omega);go_wp2_with fail;refine Calls.mono C0.out ?_;rintro e u1 ⟨rfl,v1,hW,hF⟩;have A1:Hid (WrP W0.heap.size q dv u1 v1 (gapZ zs++[40])∧FrP W0.heap.size q w u1∧u1.heap[q1]? = some (.cells #[.int .i64 p.k,.int .i64 p.n,.slice a1 l1 c1,.slice a2 l2 c2,.slice a3 l3 c3,.slice a4 l4 c4,.slice a5 l5 c5] 36 (0,0))):=⟨hW,AL.out.2.1.trans hF,hF.cells AL.out.2.2 (by decide) hqq⟩;clear C0 hW hF AL y0 y1 y2 y3 y4 y5 y6;obtain ⟨⟨y0,y1,y2,y3,y4,y5,y6⟩,-⟩:=blkE A1.out.2.2;have C1:Hid _:=HI.out v1 (gapZ zs++[40]) u1 (HB.out _ A1.out.2.1) A1.out.1 (by simp only[lA,List.length_singleton];omega);rw[HP.out,gapZ_open] at C1;simp only[];go_wp2_with fail;refine Calls.mono C1.out ?_;rintro e u2 ⟨rfl,v2,hW,hF⟩;have A2:Hid (WrP W0.heap.size q dv u2 v2 (gapZ zs++[40]++joinZ T)∧FrP W0.heap.size q w u2):=⟨hW,A1.out.2.1.trans hF⟩;clear C1 hW hF A1 y0 y1 y2 y3 y4 y5 y6
  have C2:Hid _:=closeT W0.heap.size q dv v2 (gapZ zs++[40]++joinZ T) u2 A2.out.1 (by simp only[lA,List.length_singleton];omega);simp only[];go_wp2_with fail;refine Calls.mono C2.out ?_;rintro e u3 ⟨rfl,v3,hW,hF⟩;have FF:Hid (WrP W0.heap.size q dv u3 v3 (gapZ zs++exX p kids alts)∧FrP W0.heap.size q w u3):=⟨hW.as (by rw[HX.out];simp),A2.out.2.trans hF⟩;clear C2 hW hF A2;simp only[];go_wp2
  (try simp only[Exit.inBlock,Exit.then])
  refine bodyPost_end (results_noneK (P:=Tryz.prog) Tryz.results71 _ _) rfl ?_;exact ⟨rfl,v3,FF.out⟩
theorem exprPT (W0:World) (q:Nat) (dv:Value) (hbas:Bas W0):∀ m,ExC W0 q dv m
 | 0=>fun p kids alts _ _ _ _ _ _ _ _ _ _ _ _ _ _ _ _ _ _ _ hm=>absurd hm (Nat.not_lt_zero _)
 | m+1=>exprT_of W0 q dv m hbas (exprPT W0 q dv hbas m)
end Go.Proofs.YtblbnillilbacaaGreatDoor.By
