/-
  No statement is proved here.
-/
import Derived.Test.YtblbnillilbacaaGreatDoorNCAlsoa
namespace Go.Proofs.YtblbnillilbacaaGreatDoor.By
set_option maxRecDepth 100000
set_option maxHeartbeats 16000000
open Go.RowKit
set_option linter.unusedVariables false
set_option linter.unusedSimpArgs false
theorem blkF {w:World} {g:Nat} {t:TypeId} {v0 v1 v2 v3:Value} (h:w.heap[g]? = some (.cells #[v0,v1,v2,v3] t (0,0))):(w.cell? ⟨g,0,none⟩=some v0∧w.cell? ⟨g,1,none⟩=some v1∧w.cell? ⟨g,2,none⟩=some v2∧w.cell? ⟨g,3,none⟩=some v3)∧∀ j,w.frozen? ⟨g,j,none⟩=false:=by
 refine ⟨⟨?_,?_,?_,?_⟩,fun j=>frozen_of_row w g _ _ t h⟩ <;> (rw[cell_of_row w g _ _ t (0,0) h];rfl)
def nfV (s:ByteArray) (name:List Int):Bool:=if hasB s 110 then nameV name else if hasB s 103 then wordV 65 90 name else decide (name.length=0)
def afV (s:ByteArray) (name arg:List Int):Bool:=if hasB s 97 then nameV arg && !decide (arg=name) else decide (arg.length=0)
def lfV (s:ByteArray) (lit:List Int):Bool:=if hasB s 116 then litV lit else decide (lit.length=0)
def kfV (s:ByteArray) (nk:Nat):Bool:=if hasB s 102 then decide (nk≤3) else decide (nk=Lib.countByte s.data.toList 107)
def mfV (s:ByteArray) (g:GE):Bool:=if hasB s 109 then decide (1≤g.len) && decide (g.len≤6) && !badA g else decide (g.len=0)
def fitV (s:ByteArray) (p:PE) (kids alts:GE):Bool:=(!hasB s 105 || wholeV p.n) && nfV s p.name && afV s p.name p.arg && lfV s p.lit && kfV s kids.len && mfV s alts
theorem litFitsT (wd:ByteArray) (k n:Int) (s:ByteArray) (a:Option Addr) (l c:Nat) (zs:List Int) (w:World) (h:RdB w a l zs) :
  Calls Tryz.prog 136 #[.agg #[.string wd,.int .i64 k,.int .i64 n,.string s],.slice a l c] w fun e u=>e = .returned (.bool (lfV s zs))∧w.grownBy u none:=by
 have g0:=gal w (.cells #[.string wd,.int .i64 k,.int .i64 n,.string s] 129) none;have b0:=heap_alloc_new w (.cells #[.string wd,.int .i64 k,.int .i64 n,.string s] 129)
 have HS:Hid (∀ u,w.grownBy u none→RdB u a l zs):=fun u hu=>h.none hu
 have L0:Hid (w.grownBy _ none∧_=some (Obj.cells #[.string wd,.int .i64 k,.int .i64 n,.string s] 129)):=⟨g0,b0⟩;have hl:=h.1.1;have H0:Hid _:=hasT wd k n s 116 (w.alloc (.cells #[.string wd,.int .i64 k,.int .i64 n,.string s] 129));obtain ⟨⟨y0,y1,y2,y3⟩,-⟩:=blkF b0;clear g0 b0 h;go_enter Tryz.func136,Tryz.ntmps136;go_wp2_with fail;refine Calls.mono H0.out ?_;rintro e u0 ⟨rfl,hg⟩;have L1:Hid (w.grownBy u0 none∧u0.heap[w.heap.size]? = some (Obj.cells #[.string wd,.int .i64 k,.int .i64 n,.string s] 129)):=⟨gtr L0.out.1 hg,(hg.block _ (lt_of_block L0.out.2) (by simp)).trans L0.out.2⟩;clear H0 hg L0 y0 y1 y2 y3;obtain ⟨⟨y0,y1,y2,y3⟩,-⟩:=blkF L1.out.2;simp only[];have eL:(((116:UInt8).toNat:Nat):Int)=116:=rfl
 cases hb:hasB s 116 with
 | true =>
  have HE:Hid (lfV s zs=litV zs):=by show _=_;unfold lfV;rw[hb,if_pos rfl]
  have C1:Hid _:=isLiteralT a l c zs u0 (HS.out _ L1.out.1);rw[eL,hb];go_wp2_with fail;refine Calls.mono C1.out ?_;rintro e u1 ⟨rfl,hg⟩;have G:Hid (w.grownBy u1 none):=gtr L1.out.1 hg;clear C1 hg L1 y0 y1 y2 y3;simp only[];go_wp2;go_ret;exact ⟨by rw[HE.out];rfl,G.out⟩
 | false =>
  rw[eL,hb]
  have HE:Hid (lfV s zs=decide (l=0)):=by
   show _=_
   unfold lfV;rw[hb,if_neg (by simp),hl]
  by_cases hz:l=0
  ·
   subst hz;go_wp2;go_ret;exact ⟨by rw[HE.out];rfl,L1.out.1⟩
  ·
   have hz':¬ (l:Int)=0:=by omega
   go_wp2;go_ret;exact ⟨by rw[HE.out];simp [hz],L1.out.1⟩
theorem nameFitsT (wd:ByteArray) (k n:Int) (s:ByteArray) (a:Option Addr) (l c:Nat) (zs:List Int) (w:World) (h:RdB w a l zs) :
  Calls Tryz.prog 134 #[.agg #[.string wd,.int .i64 k,.int .i64 n,.string s],.slice a l c] w fun e u=>e = .returned (.bool (nfV s zs))∧w.grownBy u none:=by
 have g0:=gal w (.cells #[.string wd,.int .i64 k,.int .i64 n,.string s] 129) none;have b0:=heap_alloc_new w (.cells #[.string wd,.int .i64 k,.int .i64 n,.string s] 129)
 have HS:Hid (∀ u,w.grownBy u none→RdB u a l zs):=fun u hu=>h.none hu
 have L0:Hid (w.grownBy _ none∧_=some (Obj.cells #[.string wd,.int .i64 k,.int .i64 n,.string s] 129)):=⟨g0,b0⟩;have hl:=h.1.1;have H0:Hid _:=hasT wd k n s 110 (w.alloc (.cells #[.string wd,.int .i64 k,.int .i64 n,.string s] 129));obtain ⟨⟨y0,y1,y2,y3⟩,-⟩:=blkF b0;clear g0 b0 h;go_enter Tryz.func134,Tryz.ntmps134;go_wp2_with fail;refine Calls.mono H0.out ?_;rintro e u0 ⟨rfl,hg⟩;have L1:Hid (w.grownBy u0 none∧u0.heap[w.heap.size]? = some (Obj.cells #[.string wd,.int .i64 k,.int .i64 n,.string s] 129)):=⟨gtr L0.out.1 hg,(hg.block _ (lt_of_block L0.out.2) (by simp)).trans L0.out.2⟩;clear H0 hg L0 y0 y1 y2 y3;obtain ⟨⟨y0,y1,y2,y3⟩,-⟩:=blkF L1.out.2;simp only[];have eL:(((110:UInt8).toNat:Nat):Int)=110:=rfl
 cases hb:hasB s 110 with
 | true =>
  have HE:Hid (nfV s zs=nameV zs):=by show _=_;unfold nfV;rw[hb,if_pos rfl]
  have C1:Hid _:=isNameT a l c zs u0 (HS.out _ L1.out.1);rw[eL,hb];go_wp2_with fail;refine Calls.mono C1.out ?_;rintro e u1 ⟨rfl,hg⟩;have G:Hid (w.grownBy u1 none):=gtr L1.out.1 hg;clear C1 hg L1 y0 y1 y2 y3;simp only[];go_wp2;go_ret;exact ⟨by rw[HE.out];rfl,G.out⟩
 | false =>
  rw[eL,hb];have H1:Hid _:=hasT wd k n s 103 u0;go_wp2_with fail;refine Calls.mono H1.out ?_;rintro e u1 ⟨rfl,hg⟩;have L2:Hid (w.grownBy u1 none∧u1.heap[w.heap.size]? = some (Obj.cells #[.string wd,.int .i64 k,.int .i64 n,.string s] 129)):=⟨gtr L1.out.1 hg,(hg.block _ (lt_of_block L1.out.2) (by simp)).trans L1.out.2⟩;clear H1 hg L1 y0 y1 y2 y3 eL;obtain ⟨⟨y0,y1,y2,y3⟩,-⟩:=blkF L2.out.2;simp only[];have eL:(((103:UInt8).toNat:Nat):Int)=103:=rfl
  cases hb2:hasB s 103 with
  | true =>
   have HE:Hid (nfV s zs=wordV 65 90 zs):=by show _=_;unfold nfV;rw[hb,if_neg (by simp),hb2,if_pos rfl]
   have C1:Hid _:=isGreatT a l c zs u1 (HS.out _ L2.out.1);rw[eL,hb2];go_wp2_with fail;refine Calls.mono C1.out ?_;rintro e u2 ⟨rfl,hg⟩;have G:Hid (w.grownBy u2 none):=gtr L2.out.1 hg;clear C1 hg L2 y0 y1 y2 y3;simp only[];go_wp2;go_ret;exact ⟨by rw[HE.out];rfl,G.out⟩
  | false =>
   rw[eL,hb2]
   have HE:Hid (nfV s zs=decide (l=0)):=by
    show _=_
    unfold nfV;rw[hb,if_neg (by simp),hb2,if_neg (by simp),hl]
   by_cases hz:l=0
   ·
    subst hz;go_wp2;go_ret;exact ⟨by rw[HE.out];rfl,L2.out.1⟩
   ·
    have hz':¬ (l:Int)=0:=by omega
    go_wp2;go_ret;exact ⟨by rw[HE.out];simp [hz],L2.out.1⟩
theorem argFitsT (wd:ByteArray) (k n:Int) (s:ByteArray) (a0:Option Addr) (l0 c0:Nat) (ys:List Int) (a:Option Addr) (l c:Nat) (zs:List Int) (w:World) (h0:RdB w a0 l0 ys) (h:RdB w a l zs) :
  Calls Tryz.prog 135 #[.agg #[.string wd,.int .i64 k,.int .i64 n,.string s],.slice a0 l0 c0,.slice a l c] w fun e u=>e = .returned (.bool (afV s ys zs))∧w.grownBy u none:=by
 have g0:=gal w (.cells #[.string wd,.int .i64 k,.int .i64 n,.string s] 129) none;have b0:=heap_alloc_new w (.cells #[.string wd,.int .i64 k,.int .i64 n,.string s] 129)
 have HS:Hid (∀ u,w.grownBy u none→RdB u a0 l0 ys∧RdB u a l zs):=fun u hu=>⟨h0.none hu,h.none hu⟩
 have L0:Hid (w.grownBy _ none∧_=some (Obj.cells #[.string wd,.int .i64 k,.int .i64 n,.string s] 129)):=⟨g0,b0⟩;have hl:=h.1.1;have H0:Hid _:=hasT wd k n s 97 (w.alloc (.cells #[.string wd,.int .i64 k,.int .i64 n,.string s] 129));obtain ⟨⟨y0,y1,y2,y3⟩,-⟩:=blkF b0;clear g0 b0 h h0;go_enter Tryz.func135,Tryz.ntmps135;go_wp2_with fail;refine Calls.mono H0.out ?_;rintro e u0 ⟨rfl,hg⟩;have L1:Hid (w.grownBy u0 none∧u0.heap[w.heap.size]? = some (Obj.cells #[.string wd,.int .i64 k,.int .i64 n,.string s] 129)):=⟨gtr L0.out.1 hg,(hg.block _ (lt_of_block L0.out.2) (by simp)).trans L0.out.2⟩;clear H0 hg L0 y0 y1 y2 y3;obtain ⟨⟨y0,y1,y2,y3⟩,-⟩:=blkF L1.out.2;simp only[];have eL:(((97:UInt8).toNat:Nat):Int)=97:=rfl
 cases hb:hasB s 97 with
 | true =>
  have HE:Hid (afV s ys zs=(nameV zs && !decide (zs=ys))):=by show _=_;unfold afV;rw[hb,if_pos rfl]
  have C1:Hid _:=isNameT a l c zs u0 (HS.out _ L1.out.1).2;rw[eL,hb];go_wp2_with fail;refine Calls.mono C1.out ?_;rintro e u1 ⟨rfl,hg⟩;have L2:Hid (w.grownBy u1 none∧u1.heap[w.heap.size]? = some (Obj.cells #[.string wd,.int .i64 k,.int .i64 n,.string s] 129)):=⟨gtr L1.out.1 hg,(hg.block _ (lt_of_block L1.out.2) (by simp)).trans L1.out.2⟩;clear C1 hg L1 y0 y1 y2 y3;obtain ⟨⟨y0,y1,y2,y3⟩,-⟩:=blkF L2.out.2;simp only[]
  cases hn:nameV zs with
  | false =>
   go_wp2;go_ret;exact ⟨by rw[HE.out,hn];rfl,L2.out.1⟩
  | true =>
   have C2:Hid _:=bytesEqT a a0 l c l0 c0 zs ys u1 (HS.out _ L2.out.1).2 (HS.out _ L2.out.1).1;go_wp2_with fail;refine Calls.mono C2.out ?_;rintro e u2 ⟨rfl,hu2⟩
   have G:Hid (w.grownBy u2 none):=by first|exact gtr L2.out.1 hu2 | (rw[hu2];exact L2.out.1)
   clear C2 hu2 L2 y0 y1 y2 y3;simp only[];go_wp2;go_ret;exact ⟨by rw[HE.out,hn];rfl,G.out⟩
 | false =>
  rw[eL,hb]
  have HE:Hid (afV s ys zs=decide (l=0)):=by
   show _=_
   unfold afV;rw[hb,if_neg (by simp),hl]
  by_cases hz:l=0
  ·
   subst hz;go_wp2;go_ret;exact ⟨by rw[HE.out];rfl,L1.out.1⟩
  ·
   have hz':¬ (l:Int)=0:=by omega
   go_wp2;go_ret;exact ⟨by rw[HE.out];simp [hz],L1.out.1⟩
theorem kidsFitT (wd:ByteArray) (k n:Int) (s:ByteArray) (nk:Nat) (w:World) (hnk:nk≤9223372036854775807) :
  Calls Tryz.prog 137 #[.agg #[.string wd,.int .i64 k,.int .i64 n,.string s],.int .i64 (nk:Int)] w fun e u=>e = .returned (.bool (kfV s nk))∧w.grownBy u none:=by
 have g0:=gal w (.cells #[.string wd,.int .i64 k,.int .i64 n,.string s] 129) none;have b0:=heap_alloc_new w (.cells #[.string wd,.int .i64 k,.int .i64 n,.string s] 129)
 have HS:Hid (∀ u,w.grownBy u none→True):=fun u hu=>trivial
 have L0:Hid (w.grownBy _ none∧_=some (Obj.cells #[.string wd,.int .i64 k,.int .i64 n,.string s] 129)):=⟨g0,b0⟩;have H0:Hid _:=hasT wd k n s 102 (w.alloc (.cells #[.string wd,.int .i64 k,.int .i64 n,.string s] 129));obtain ⟨⟨y0,y1,y2,y3⟩,-⟩:=blkF b0;clear g0 b0;go_enter Tryz.func137,Tryz.ntmps137;go_wp2_with fail;refine Calls.mono H0.out ?_;rintro e u0 ⟨rfl,hg⟩;have L1:Hid (w.grownBy u0 none∧u0.heap[w.heap.size]? = some (Obj.cells #[.string wd,.int .i64 k,.int .i64 n,.string s] 129)):=⟨gtr L0.out.1 hg,(hg.block _ (lt_of_block L0.out.2) (by simp)).trans L0.out.2⟩;clear H0 hg L0 y0 y1 y2 y3;obtain ⟨⟨y0,y1,y2,y3⟩,-⟩:=blkF L1.out.2;simp only[];have eL:(((102:UInt8).toNat:Nat):Int)=102:=rfl
 cases hb:hasB s 102 with
 | true =>
  have HE:Hid (kfV s nk=decide (nk≤3)):=by show _=_;unfold kfV;rw[hb,if_pos rfl]
  rw[eL,hb];by_cases hq:nk≤3
  ·
   have hq':(nk:Int)≤3:=by omega
   go_wp2;go_ret;exact ⟨by rw[HE.out];simp [hq],L1.out.1⟩
  ·
   have hq':¬ (nk:Int)≤3:=by omega
   go_wp2;go_ret;exact ⟨by rw[HE.out];simp [hq],L1.out.1⟩
 | false =>
  have HE:Hid (kfV s nk=decide (nk=Lib.countByte s.data.toList 107)):=by show _=_;unfold kfV;rw[hb,if_neg (by simp)]
  have C1:Hid _:=sCountT s 107 u0;rw[eL,hb];go_wp2_with fail;refine Calls.mono C1.out ?_;rintro e u1 ⟨rfl,hu1⟩;subst hu1;clear C1;generalize Lib.countByte s.data.toList 107=q at *;simp only[];by_cases hq:nk=q
  ·
   subst hq;go_wp2;go_ret;exact ⟨by rw[HE.out];simp,L1.out.1⟩
  ·
   have hq':¬ (nk:Int)=(q:Int):=by omega
   go_wp2;go_ret;exact ⟨by rw[HE.out];simp [hq,hq'],L1.out.1⟩
theorem armsFitT (wd:ByteArray) (k n:Int) (s:ByteArray) (g:GE) (a:Option Addr) (l c:Nat) (w:World) (h:SlGE w true a l c g) :
  Calls Tryz.prog 138 #[.agg #[.string wd,.int .i64 k,.int .i64 n,.string s],.slice a l c] w fun e u=>e = .returned (.bool (mfV s g))∧w.grownBy u none:=by
 have g0:=gal w (.cells #[.string wd,.int .i64 k,.int .i64 n,.string s] 129) none;have b0:=heap_alloc_new w (.cells #[.string wd,.int .i64 k,.int .i64 n,.string s] 129)
 have HS:Hid (∀ u,w.grownBy u none→SlGE u true a l c g):=fun u hu=>h.none hu
 have L0:Hid (w.grownBy _ none∧_=some (Obj.cells #[.string wd,.int .i64 k,.int .i64 n,.string s] 129)):=⟨g0,b0⟩;have hl:=h.1;have hlm:=h.2.1;have H0:Hid _:=hasT wd k n s 109 (w.alloc (.cells #[.string wd,.int .i64 k,.int .i64 n,.string s] 129));obtain ⟨⟨y0,y1,y2,y3⟩,-⟩:=blkF b0;clear g0 b0 h;go_enter Tryz.func138,Tryz.ntmps138;go_wp2_with fail;refine Calls.mono H0.out ?_;rintro e u0 ⟨rfl,hg⟩;have L1:Hid (w.grownBy u0 none∧u0.heap[w.heap.size]? = some (Obj.cells #[.string wd,.int .i64 k,.int .i64 n,.string s] 129)):=⟨gtr L0.out.1 hg,(hg.block _ (lt_of_block L0.out.2) (by simp)).trans L0.out.2⟩;clear H0 hg L0 y0 y1 y2 y3;obtain ⟨⟨y0,y1,y2,y3⟩,-⟩:=blkF L1.out.2;simp only[];have eL:(((109:UInt8).toNat:Nat):Int)=109:=rfl
 cases hb:hasB s 109 with
 | true =>
  have HE:Hid (mfV s g=(decide (1≤l) && decide (l≤6) && !badA g)):=by show _=_;unfold mfV;rw[hb,if_pos rfl,hl]
  rw[eL,hb];by_cases h1:1≤l
  ·
   have h1':(l:Int) ≥ 1:=by omega
   by_cases h6:l≤6
   ·
    have h6':(l:Int)≤6:=by omega
    have C1:Hid _:=containsAT g a l c u0 (HS.out _ L1.out.1);go_wp2_with fail;refine Calls.mono C1.out ?_;rintro e u1 ⟨rfl,hg⟩;have G:Hid (w.grownBy u1 none):=gtr L1.out.1 hg;clear C1 hg L1 y0 y1 y2 y3;simp only[];go_wp2;go_ret;exact ⟨by rw[HE.out];simp [h1,h6],G.out⟩
   ·
    have h6':¬ (l:Int)≤6:=by omega
    go_wp2;go_ret;exact ⟨by rw[HE.out];simp [h6],L1.out.1⟩
  ·
   have h1':¬ (l:Int) ≥ 1:=by omega
   go_wp2;go_ret;exact ⟨by rw[HE.out];simp [h1],L1.out.1⟩
 | false =>
  rw[eL,hb]
  have HE:Hid (mfV s g=decide (l=0)):=by
   show _=_
   unfold mfV;rw[hb,if_neg (by simp),hl]
  by_cases hz:l=0
  ·
   subst hz;go_wp2;go_ret;exact ⟨by rw[HE.out];rfl,L1.out.1⟩
  ·
   have hz':¬ (l:Int)=0:=by omega
   go_wp2;go_ret;exact ⟨by rw[HE.out];simp [hz],L1.out.1⟩
theorem fitsT (wd:ByteArray) (k n:Int) (s:ByteArray) (p:PE) (kids alts:GE) (a1:Option Addr) (l1 c1:Nat) (a2:Option Addr) (l2 c2:Nat) (a3:Option Addr) (l3 c3:Nat) (a4:Option Addr) (l4 c4:Nat) (a5:Option Addr) (l5 c5:Nat) (w:World) (h:NdE w p kids alts a1 l1 c1 a2 l2 c2 a3 l3 c3 a4 l4 c4 a5 l5 c5) :
  Calls Tryz.prog 102 #[.agg #[.string wd,.int .i64 k,.int .i64 n,.string s],.agg #[.int .i64 p.k,.int .i64 p.n,.slice a1 l1 c1,.slice a2 l2 c2,.slice a3 l3 c3,.slice a4 l4 c4,.slice a5 l5 c5]] w fun e u=>e = .returned (.bool (fitV s p kids alts))∧w.grownBy u none:=by
 obtain ⟨b0,b1,bsz⟩:=alloc2_blocks w (.cells #[.string wd,.int .i64 k,.int .i64 n,.string s] 129) (.cells #[.int .i64 p.k,.int .i64 p.n,.slice a1 l1 c1,.slice a2 l2 c2,.slice a3 l3 c3,.slice a4 l4 c4,.slice a5 l5 c5] 36);have g0:=grown_alloc (grown_alloc (grf w none) (.cells #[.string wd,.int .i64 k,.int .i64 n,.string s] 129)) (.cells #[.int .i64 p.k,.int .i64 p.n,.slice a1 l1 c1,.slice a2 l2 c2,.slice a3 l3 c3,.slice a4 l4 c4,.slice a5 l5 c5] 36)
 have HS:Hid (∀ u,w.grownBy u none→NdE u p kids alts a1 l1 c1 a2 l2 c2 a3 l3 c3 a4 l4 c4 a5 l5 c5):=fun u hu=>h.none hu
 have hk4:=h.2.2.2.1.2.1;have hf4:=h.2.2.2.1.1
 have HF:Hid (fitV s p kids alts=((!hasB s 105 || wholeV p.n) && nfV s p.name && afV s p.name p.arg && lfV s p.lit && kfV s l4 && mfV s alts)):=by show _=_;unfold fitV;rw[hf4]
 have L0:Hid (w.grownBy _ none∧_=some (Obj.cells #[.string wd,.int .i64 k,.int .i64 n,.string s] 129)∧_=some (Obj.cells #[.int .i64 p.k,.int .i64 p.n,.slice a1 l1 c1,.slice a2 l2 c2,.slice a3 l3 c3,.slice a4 l4 c4,.slice a5 l5 c5] 36)):=⟨g0,b0,b1⟩;have H0:Hid _:=hasT wd k n s 105 ((w.alloc (.cells #[.string wd,.int .i64 k,.int .i64 n,.string s] 129)).alloc (.cells #[.int .i64 p.k,.int .i64 p.n,.slice a1 l1 c1,.slice a2 l2 c2,.slice a3 l3 c3,.slice a4 l4 c4,.slice a5 l5 c5] 36));obtain ⟨⟨y0,y1,y2,y3⟩,-⟩:=blkF b0;obtain ⟨⟨z0,z1,z2,z3,z4,z5,z6⟩,-⟩:=blkE b1;clear g0 b0 b1 bsz h hf4;go_enter Tryz.func102,Tryz.ntmps102;go_wp2_with fail;refine Calls.mono H0.out ?_;rintro e u0 ⟨rfl,hg⟩;have L1:Hid (w.grownBy u0 none∧u0.heap[w.heap.size]? = some (Obj.cells #[.string wd,.int .i64 k,.int .i64 n,.string s] 129)∧u0.heap[w.heap.size+1]? = some (Obj.cells #[.int .i64 p.k,.int .i64 p.n,.slice a1 l1 c1,.slice a2 l2 c2,.slice a3 l3 c3,.slice a4 l4 c4,.slice a5 l5 c5] 36)):=⟨gtr L0.out.1 hg,(hg.block _ (lt_of_block L0.out.2.1) (by simp)).trans L0.out.2.1,(hg.block _ (lt_of_block L0.out.2.2) (by simp)).trans L0.out.2.2⟩
 clear H0 hg L0 y0 y1 y2 y3 z0 z1 z2 z3 z4 z5 z6;obtain ⟨⟨y0,y1,y2,y3⟩,-⟩:=blkF L1.out.2.1;obtain ⟨⟨z0,z1,z2,z3,z4,z5,z6⟩,-⟩:=blkE L1.out.2.2;simp only[];have eL:(((105:UInt8).toNat:Nat):Int)=105:=rfl
 cases hb:hasB s 105 with
 | true =>
  rw[eL,hb]
  have C1:Hid (Calls Tryz.prog 133 #[.int .i64 p.n] u0 fun e u=>e = .returned (.bool (wholeV p.n))∧u0.grownBy u none):=(isWholeT p.n u0).mono fun e u hh=>⟨hh.1,by rw[hh.2];exact grf _ _⟩
  go_wp2_with fail;refine Calls.mono C1.out ?_;rintro e u2 ⟨rfl,hg⟩;have L2:Hid (w.grownBy u2 none∧u2.heap[w.heap.size]? = some (Obj.cells #[.string wd,.int .i64 k,.int .i64 n,.string s] 129)∧u2.heap[w.heap.size+1]? = some (Obj.cells #[.int .i64 p.k,.int .i64 p.n,.slice a1 l1 c1,.slice a2 l2 c2,.slice a3 l3 c3,.slice a4 l4 c4,.slice a5 l5 c5] 36)):=⟨gtr L1.out.1 hg,(hg.block _ (lt_of_block L1.out.2.1) (by simp)).trans L1.out.2.1,(hg.block _ (lt_of_block L1.out.2.2) (by simp)).trans L1.out.2.2⟩;clear C1 hg L1 y0 y1 y2 y3 z0 z1 z2 z3 z4 z5 z6;obtain ⟨⟨y0,y1,y2,y3⟩,-⟩:=blkF L2.out.2.1;obtain ⟨⟨z0,z1,z2,z3,z4,z5,z6⟩,-⟩:=blkE L2.out.2.2;simp only[]
  cases hw:wholeV p.n with
  | false =>
   go_wp2;go_ret;exact ⟨by rw[HF.out];simp [hb,hw],L2.out.1⟩
  | true =>
   have C10:Hid _:=nameFitsT wd k n s a1 l1 c1 p.name u2 (HS.out _ L2.out.1).1;go_wp2_with fail;refine Calls.mono C10.out ?_;rintro e u3 ⟨rfl,hg⟩;have L3:Hid (w.grownBy u3 none∧u3.heap[w.heap.size]? = some (Obj.cells #[.string wd,.int .i64 k,.int .i64 n,.string s] 129)∧u3.heap[w.heap.size+1]? = some (Obj.cells #[.int .i64 p.k,.int .i64 p.n,.slice a1 l1 c1,.slice a2 l2 c2,.slice a3 l3 c3,.slice a4 l4 c4,.slice a5 l5 c5] 36)):=⟨gtr L2.out.1 hg,(hg.block _ (lt_of_block L2.out.2.1) (by simp)).trans L2.out.2.1,(hg.block _ (lt_of_block L2.out.2.2) (by simp)).trans L2.out.2.2⟩;clear C10 hg L2 y0 y1 y2 y3 z0 z1 z2 z3 z4 z5 z6;obtain ⟨⟨y0,y1,y2,y3⟩,-⟩:=blkF L3.out.2.1;obtain ⟨⟨z0,z1,z2,z3,z4,z5,z6⟩,-⟩:=blkE L3.out.2.2;simp only[]
   cases hq0:nfV s p.name with
   | false =>
    go_wp2;go_ret;exact ⟨by rw[HF.out];simp [hb,hw,hq0],L3.out.1⟩
   | true =>
    have C11:Hid _:=argFitsT wd k n s a1 l1 c1 p.name a2 l2 c2 p.arg u3 (HS.out _ L3.out.1).1 (HS.out _ L3.out.1).2.1;go_wp2_with fail;refine Calls.mono C11.out ?_;rintro e u4 ⟨rfl,hg⟩;have L4:Hid (w.grownBy u4 none∧u4.heap[w.heap.size]? = some (Obj.cells #[.string wd,.int .i64 k,.int .i64 n,.string s] 129)∧u4.heap[w.heap.size+1]? = some (Obj.cells #[.int .i64 p.k,.int .i64 p.n,.slice a1 l1 c1,.slice a2 l2 c2,.slice a3 l3 c3,.slice a4 l4 c4,.slice a5 l5 c5] 36)):=⟨gtr L3.out.1 hg,(hg.block _ (lt_of_block L3.out.2.1) (by simp)).trans L3.out.2.1,(hg.block _ (lt_of_block L3.out.2.2) (by simp)).trans L3.out.2.2⟩;clear C11 hg L3 y0 y1 y2 y3 z0 z1 z2 z3 z4 z5 z6;obtain ⟨⟨y0,y1,y2,y3⟩,-⟩:=blkF L4.out.2.1;obtain ⟨⟨z0,z1,z2,z3,z4,z5,z6⟩,-⟩:=blkE L4.out.2.2;simp only[]
    cases hq1:afV s p.name p.arg with
    | false =>
     go_wp2;go_ret;exact ⟨by rw[HF.out];simp [hb,hw,hq0,hq1],L4.out.1⟩
    | true =>
     have C12:Hid _:=litFitsT wd k n s a3 l3 c3 p.lit u4 (HS.out _ L4.out.1).2.2.1;go_wp2_with fail;refine Calls.mono C12.out ?_;rintro e u5 ⟨rfl,hg⟩;have L5:Hid (w.grownBy u5 none∧u5.heap[w.heap.size]? = some (Obj.cells #[.string wd,.int .i64 k,.int .i64 n,.string s] 129)∧u5.heap[w.heap.size+1]? = some (Obj.cells #[.int .i64 p.k,.int .i64 p.n,.slice a1 l1 c1,.slice a2 l2 c2,.slice a3 l3 c3,.slice a4 l4 c4,.slice a5 l5 c5] 36)):=⟨gtr L4.out.1 hg,(hg.block _ (lt_of_block L4.out.2.1) (by simp)).trans L4.out.2.1,(hg.block _ (lt_of_block L4.out.2.2) (by simp)).trans L4.out.2.2⟩;clear C12 hg L4 y0 y1 y2 y3 z0 z1 z2 z3 z4 z5 z6;obtain ⟨⟨y0,y1,y2,y3⟩,-⟩:=blkF L5.out.2.1;obtain ⟨⟨z0,z1,z2,z3,z4,z5,z6⟩,-⟩:=blkE L5.out.2.2;simp only[]
     cases hq2:lfV s p.lit with
     | false =>
      go_wp2;go_ret;exact ⟨by rw[HF.out];simp [hb,hw,hq0,hq1,hq2],L5.out.1⟩
     | true =>
      have C13:Hid _:=kidsFitT wd k n s l4 u5 hk4;go_wp2_with fail;refine Calls.mono C13.out ?_;rintro e u6 ⟨rfl,hg⟩;have L6:Hid (w.grownBy u6 none∧u6.heap[w.heap.size]? = some (Obj.cells #[.string wd,.int .i64 k,.int .i64 n,.string s] 129)∧u6.heap[w.heap.size+1]? = some (Obj.cells #[.int .i64 p.k,.int .i64 p.n,.slice a1 l1 c1,.slice a2 l2 c2,.slice a3 l3 c3,.slice a4 l4 c4,.slice a5 l5 c5] 36)):=⟨gtr L5.out.1 hg,(hg.block _ (lt_of_block L5.out.2.1) (by simp)).trans L5.out.2.1,(hg.block _ (lt_of_block L5.out.2.2) (by simp)).trans L5.out.2.2⟩;clear C13 hg L5 y0 y1 y2 y3 z0 z1 z2 z3 z4 z5 z6;obtain ⟨⟨y0,y1,y2,y3⟩,-⟩:=blkF L6.out.2.1;obtain ⟨⟨z0,z1,z2,z3,z4,z5,z6⟩,-⟩:=blkE L6.out.2.2;simp only[]
      cases hq3:kfV s l4 with
      | false =>
       go_wp2;go_ret;exact ⟨by rw[HF.out];simp [hb,hw,hq0,hq1,hq2,hq3],L6.out.1⟩
      | true =>
       have C14:Hid _:=armsFitT wd k n s alts a5 l5 c5 u6 (HS.out _ L6.out.1).2.2.2.2;go_wp2_with fail;refine Calls.mono C14.out ?_;rintro e u7 ⟨rfl,hg⟩;have L7:Hid (w.grownBy u7 none∧u7.heap[w.heap.size]? = some (Obj.cells #[.string wd,.int .i64 k,.int .i64 n,.string s] 129)∧u7.heap[w.heap.size+1]? = some (Obj.cells #[.int .i64 p.k,.int .i64 p.n,.slice a1 l1 c1,.slice a2 l2 c2,.slice a3 l3 c3,.slice a4 l4 c4,.slice a5 l5 c5] 36)):=⟨gtr L6.out.1 hg,(hg.block _ (lt_of_block L6.out.2.1) (by simp)).trans L6.out.2.1,(hg.block _ (lt_of_block L6.out.2.2) (by simp)).trans L6.out.2.2⟩;clear C14 hg L6 y0 y1 y2 y3 z0 z1 z2 z3 z4 z5 z6;obtain ⟨⟨y0,y1,y2,y3⟩,-⟩:=blkF L7.out.2.1;obtain ⟨⟨z0,z1,z2,z3,z4,z5,z6⟩,-⟩:=blkE L7.out.2.2;simp only[];go_wp2;go_ret;exact ⟨by rw[HF.out];simp [hb,hw,hq0,hq1,hq2,hq3],L7.out.1⟩
 | false =>
  rw[eL,hb];have L2:Hid (w.grownBy u0 none∧u0.heap[w.heap.size]? = some (Obj.cells #[.string wd,.int .i64 k,.int .i64 n,.string s] 129)∧u0.heap[w.heap.size+1]? = some (Obj.cells #[.int .i64 p.k,.int .i64 p.n,.slice a1 l1 c1,.slice a2 l2 c2,.slice a3 l3 c3,.slice a4 l4 c4,.slice a5 l5 c5] 36)):=L1.out;clear L1;generalize u0=u2 at *;have C10:Hid _:=nameFitsT wd k n s a1 l1 c1 p.name u2 (HS.out _ L2.out.1).1;go_wp2_with fail;refine Calls.mono C10.out ?_;rintro e u3 ⟨rfl,hg⟩;have L3:Hid (w.grownBy u3 none∧u3.heap[w.heap.size]? = some (Obj.cells #[.string wd,.int .i64 k,.int .i64 n,.string s] 129)∧u3.heap[w.heap.size+1]? = some (Obj.cells #[.int .i64 p.k,.int .i64 p.n,.slice a1 l1 c1,.slice a2 l2 c2,.slice a3 l3 c3,.slice a4 l4 c4,.slice a5 l5 c5] 36)):=⟨gtr L2.out.1 hg,(hg.block _ (lt_of_block L2.out.2.1) (by simp)).trans L2.out.2.1,(hg.block _ (lt_of_block L2.out.2.2) (by simp)).trans L2.out.2.2⟩
  clear C10 hg L2 y0 y1 y2 y3 z0 z1 z2 z3 z4 z5 z6;obtain ⟨⟨y0,y1,y2,y3⟩,-⟩:=blkF L3.out.2.1;obtain ⟨⟨z0,z1,z2,z3,z4,z5,z6⟩,-⟩:=blkE L3.out.2.2;simp only[]
  cases hq0:nfV s p.name with
  | false =>
   go_wp2;go_ret;exact ⟨by rw[HF.out];simp [hb,hq0],L3.out.1⟩
  | true =>
   have C11:Hid _:=argFitsT wd k n s a1 l1 c1 p.name a2 l2 c2 p.arg u3 (HS.out _ L3.out.1).1 (HS.out _ L3.out.1).2.1;go_wp2_with fail;refine Calls.mono C11.out ?_;rintro e u4 ⟨rfl,hg⟩;have L4:Hid (w.grownBy u4 none∧u4.heap[w.heap.size]? = some (Obj.cells #[.string wd,.int .i64 k,.int .i64 n,.string s] 129)∧u4.heap[w.heap.size+1]? = some (Obj.cells #[.int .i64 p.k,.int .i64 p.n,.slice a1 l1 c1,.slice a2 l2 c2,.slice a3 l3 c3,.slice a4 l4 c4,.slice a5 l5 c5] 36)):=⟨gtr L3.out.1 hg,(hg.block _ (lt_of_block L3.out.2.1) (by simp)).trans L3.out.2.1,(hg.block _ (lt_of_block L3.out.2.2) (by simp)).trans L3.out.2.2⟩;clear C11 hg L3 y0 y1 y2 y3 z0 z1 z2 z3 z4 z5 z6;obtain ⟨⟨y0,y1,y2,y3⟩,-⟩:=blkF L4.out.2.1;obtain ⟨⟨z0,z1,z2,z3,z4,z5,z6⟩,-⟩:=blkE L4.out.2.2;simp only[]
   cases hq1:afV s p.name p.arg with
   | false =>
    go_wp2;go_ret;exact ⟨by rw[HF.out];simp [hb,hq0,hq1],L4.out.1⟩
   | true =>
    have C12:Hid _:=litFitsT wd k n s a3 l3 c3 p.lit u4 (HS.out _ L4.out.1).2.2.1;go_wp2_with fail;refine Calls.mono C12.out ?_;rintro e u5 ⟨rfl,hg⟩;have L5:Hid (w.grownBy u5 none∧u5.heap[w.heap.size]? = some (Obj.cells #[.string wd,.int .i64 k,.int .i64 n,.string s] 129)∧u5.heap[w.heap.size+1]? = some (Obj.cells #[.int .i64 p.k,.int .i64 p.n,.slice a1 l1 c1,.slice a2 l2 c2,.slice a3 l3 c3,.slice a4 l4 c4,.slice a5 l5 c5] 36)):=⟨gtr L4.out.1 hg,(hg.block _ (lt_of_block L4.out.2.1) (by simp)).trans L4.out.2.1,(hg.block _ (lt_of_block L4.out.2.2) (by simp)).trans L4.out.2.2⟩;clear C12 hg L4 y0 y1 y2 y3 z0 z1 z2 z3 z4 z5 z6;obtain ⟨⟨y0,y1,y2,y3⟩,-⟩:=blkF L5.out.2.1;obtain ⟨⟨z0,z1,z2,z3,z4,z5,z6⟩,-⟩:=blkE L5.out.2.2;simp only[]
    cases hq2:lfV s p.lit with
    | false =>
     go_wp2;go_ret;exact ⟨by rw[HF.out];simp [hb,hq0,hq1,hq2],L5.out.1⟩
    | true =>
     have C13:Hid _:=kidsFitT wd k n s l4 u5 hk4;go_wp2_with fail;refine Calls.mono C13.out ?_;rintro e u6 ⟨rfl,hg⟩;have L6:Hid (w.grownBy u6 none∧u6.heap[w.heap.size]? = some (Obj.cells #[.string wd,.int .i64 k,.int .i64 n,.string s] 129)∧u6.heap[w.heap.size+1]? = some (Obj.cells #[.int .i64 p.k,.int .i64 p.n,.slice a1 l1 c1,.slice a2 l2 c2,.slice a3 l3 c3,.slice a4 l4 c4,.slice a5 l5 c5] 36)):=⟨gtr L5.out.1 hg,(hg.block _ (lt_of_block L5.out.2.1) (by simp)).trans L5.out.2.1,(hg.block _ (lt_of_block L5.out.2.2) (by simp)).trans L5.out.2.2⟩;clear C13 hg L5 y0 y1 y2 y3 z0 z1 z2 z3 z4 z5 z6;obtain ⟨⟨y0,y1,y2,y3⟩,-⟩:=blkF L6.out.2.1;obtain ⟨⟨z0,z1,z2,z3,z4,z5,z6⟩,-⟩:=blkE L6.out.2.2;simp only[]
     cases hq3:kfV s l4 with
     | false =>
      go_wp2;go_ret;exact ⟨by rw[HF.out];simp [hb,hq0,hq1,hq2,hq3],L6.out.1⟩
     | true =>
      have C14:Hid _:=armsFitT wd k n s alts a5 l5 c5 u6 (HS.out _ L6.out.1).2.2.2.2;go_wp2_with fail;refine Calls.mono C14.out ?_;rintro e u7 ⟨rfl,hg⟩;have L7:Hid (w.grownBy u7 none∧u7.heap[w.heap.size]? = some (Obj.cells #[.string wd,.int .i64 k,.int .i64 n,.string s] 129)∧u7.heap[w.heap.size+1]? = some (Obj.cells #[.int .i64 p.k,.int .i64 p.n,.slice a1 l1 c1,.slice a2 l2 c2,.slice a3 l3 c3,.slice a4 l4 c4,.slice a5 l5 c5] 36)):=⟨gtr L6.out.1 hg,(hg.block _ (lt_of_block L6.out.2.1) (by simp)).trans L6.out.2.1,(hg.block _ (lt_of_block L6.out.2.2) (by simp)).trans L6.out.2.2⟩;clear C14 hg L6 y0 y1 y2 y3 z0 z1 z2 z3 z4 z5 z6;obtain ⟨⟨y0,y1,y2,y3⟩,-⟩:=blkF L7.out.2.1;obtain ⟨⟨z0,z1,z2,z3,z4,z5,z6⟩,-⟩:=blkE L7.out.2.2;simp only[];go_wp2;go_ret;exact ⟨by rw[HF.out];simp [hb,hq0,hq1,hq2,hq3],L7.out.1⟩
end Go.Proofs.YtblbnillilbacaaGreatDoor.By
