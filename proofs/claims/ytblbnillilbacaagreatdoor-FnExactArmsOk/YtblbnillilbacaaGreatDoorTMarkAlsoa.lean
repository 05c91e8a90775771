/-
  No statement is proved here.
-/
import Derived.Test.YtblbnillilbacaaGreatDoorNEAlsoa
import Derived.LaidLaws
namespace Go.Proofs.YtblbnillilbacaaGreatDoor.By
set_option maxRecDepth 100000
set_option maxHeartbeats 16000000
open Go.RowKit
set_option linter.unusedVariables false
set_option linter.unusedSimpArgs false
set_option maxRecDepth 20000
abbrev Frm:=ByteArray × Int × Int × ByteArray
def formsL:List Frm:=[(⟨#[117,110,105,116]⟩,0,0,⟨#[]⟩),(⟨#[]⟩,1,0,⟨#[105]⟩),(⟨#[]⟩,2,0,⟨#[116]⟩),(⟨#[]⟩,3,0,⟨#[110]⟩),(⟨#[102,110]⟩,4,0,⟨#[110,107]⟩),(⟨#[]⟩,5,0,⟨#[107,107]⟩),(⟨#[108,101,116]⟩,6,0,⟨#[110,107,107]⟩),(⟨#[114,101,99]⟩,7,0,⟨#[110,97,107,107]⟩),(⟨#[105,102]⟩,8,0,⟨#[107,107,107]⟩),(⟨#[112,97,105,114]⟩,9,0,⟨#[107,107]⟩),(⟨#[102,115,116]⟩,10,0,⟨#[107]⟩),(⟨#[115,110,100]⟩,11,0,⟨#[107]⟩),(⟨#[114,101,102]⟩,12,0,⟨#[107]⟩),(⟨#[114,101,97,100]⟩,13,0,⟨#[107]⟩),(⟨#[119,114,105,116,101]⟩,14,0,⟨#[107,107]⟩),(⟨#[]⟩,15,0,⟨#[103,102]⟩),(⟨#[109,97,116,99,104]⟩,16,0,⟨#[107,109]⟩),(⟨#[114,97,105,115,101]⟩,17,0,⟨#[107]⟩),(⟨#[116,114,121]⟩,18,0,⟨#[107,110,107]⟩),(⟨#[97,100,100]⟩,19,0,⟨#[107,107]⟩),(⟨#[115,117,98]⟩,19,1,⟨#[107,107]⟩),(⟨#[109,117,108]⟩,19,2,⟨#[107,107]⟩),(⟨#[108,101,115,115]⟩,19,3,⟨#[107,107]⟩),(⟨#[115,97,109,101]⟩,19,4,⟨#[107,107]⟩),(⟨#[99,97,116]⟩,19,5,⟨#[107,107]⟩),(⟨#[108,101,110]⟩,19,6,⟨#[107]⟩),(⟨#[112,114,105,110,116]⟩,20,0,⟨#[107]⟩),(⟨#[116,105,99,107]⟩,20,1,⟨#[]⟩),(⟨#[100,114,97,119]⟩,20,2,⟨#[107]⟩),(⟨#[103,101,116]⟩,20,3,⟨#[107]⟩),(⟨#[112,117,116]⟩,20,4,⟨#[107,107]⟩)]
def formsA:Array Value:=#[.string ⟨#[117,110,105,116]⟩,.int .i64 0,.int .i64 0,.string ⟨#[]⟩,.string ⟨#[]⟩,.int .i64 1,.int .i64 0,.string ⟨#[105]⟩,.string ⟨#[]⟩,.int .i64 2,.int .i64 0,.string ⟨#[116]⟩,.string ⟨#[]⟩,.int .i64 3,.int .i64 0,.string ⟨#[110]⟩,.string ⟨#[102,110]⟩,.int .i64 4,.int .i64 0,.string ⟨#[110,107]⟩,.string ⟨#[]⟩,.int .i64 5,.int .i64 0,.string ⟨#[107,107]⟩,.string ⟨#[108,101,116]⟩,.int .i64 6,.int .i64 0,.string ⟨#[110,107,107]⟩,.string ⟨#[114,101,99]⟩,.int .i64 7,.int .i64 0,.string ⟨#[110,97,107,107]⟩,.string ⟨#[105,102]⟩,.int .i64 8,.int .i64 0,.string ⟨#[107,107,107]⟩,.string ⟨#[112,97,105,114]⟩,.int .i64 9,.int .i64 0,.string ⟨#[107,107]⟩,.string ⟨#[102,115,116]⟩,.int .i64 10,.int .i64 0,.string ⟨#[107]⟩,.string ⟨#[115,110,100]⟩,.int .i64 11,.int .i64 0,.string ⟨#[107]⟩,.string ⟨#[114,101,102]⟩,.int .i64 12,.int .i64 0,.string ⟨#[107]⟩,.string ⟨#[114,101,97,100]⟩,.int .i64 13,.int .i64 0,.string ⟨#[107]⟩,.string ⟨#[119,114,105,116,101]⟩,.int .i64 14,.int .i64 0,.string ⟨#[107,107]⟩,.string ⟨#[]⟩,.int .i64 15,.int .i64 0,.string ⟨#[103,102]⟩,.string ⟨#[109,97,116,99,104]⟩,.int .i64 16,.int .i64 0,.string ⟨#[107,109]⟩,.string ⟨#[114,97,105,115,101]⟩,.int .i64 17,.int .i64 0,.string ⟨#[107]⟩,.string ⟨#[116,114,121]⟩,.int .i64 18,.int .i64 0,.string ⟨#[107,110,107]⟩,.string ⟨#[97,100,100]⟩,.int .i64 19,.int .i64 0,.string ⟨#[107,107]⟩,.string ⟨#[115,117,98]⟩,.int .i64 19,.int .i64 1,.string ⟨#[107,107]⟩,.string ⟨#[109,117,108]⟩,.int .i64 19,.int .i64 2,.string ⟨#[107,107]⟩,.string ⟨#[108,101,115,115]⟩,.int .i64 19,.int .i64 3,.string ⟨#[107,107]⟩,.string ⟨#[115,97,109,101]⟩,.int .i64 19,.int .i64 4,.string ⟨#[107,107]⟩,.string ⟨#[99,97,116]⟩,.int .i64 19,.int .i64 5,.string ⟨#[107,107]⟩,.string ⟨#[108,101,110]⟩,.int .i64 19,.int .i64 6,.string ⟨#[107]⟩,.string ⟨#[112,114,105,110,116]⟩,.int .i64 20,.int .i64 0,.string ⟨#[107]⟩,.string ⟨#[116,105,99,107]⟩,.int .i64 20,.int .i64 1,.string ⟨#[]⟩,.string ⟨#[100,114,97,119]⟩,.int .i64 20,.int .i64 2,.string ⟨#[107]⟩,.string ⟨#[103,101,116]⟩,.int .i64 20,.int .i64 3,.string ⟨#[107]⟩,.string ⟨#[112,117,116]⟩,.int .i64 20,.int .i64 4,.string ⟨#[107,107]⟩]
theorem formsL_len:formsL.length=31:=rfl
theorem formsA_size:formsA.size=124:=by kernel_rfl
def hitF (k n:Int) (f:Frm):Bool:=decide (f.2.1=k) && (decide (f.2.2.1=n) || hasB f.2.2.2 105)
def formV (k n:Int):Option Frm:=formsL.find? (hitF k n)
theorem idxF:∀ (j:Nat) (f:Frm),formsL[j]? = some f→∀ w,(Instr.index 165 (.agg formsA) (.int .i64 (j:Int))).run Tryz.prog w = .ok (.agg #[.string f.1,.int .i64 f.2.1,.int .i64 f.2.2.1,.string f.2.2.2]) w
 | 0,f,h,w=>by obtain rfl:(⟨#[117,110,105,116]⟩,0,0,⟨#[]⟩)=f:=Option.some.inj h;kernel_rfl
 | 1,f,h,w=>by obtain rfl:(⟨#[]⟩,1,0,⟨#[105]⟩)=f:=Option.some.inj h;kernel_rfl
 | 2,f,h,w=>by obtain rfl:(⟨#[]⟩,2,0,⟨#[116]⟩)=f:=Option.some.inj h;kernel_rfl
 | 3,f,h,w=>by obtain rfl:(⟨#[]⟩,3,0,⟨#[110]⟩)=f:=Option.some.inj h;kernel_rfl
 | 4,f,h,w=>by obtain rfl:(⟨#[102,110]⟩,4,0,⟨#[110,107]⟩)=f:=Option.some.inj h;kernel_rfl
 | 5,f,h,w=>by obtain rfl:(⟨#[]⟩,5,0,⟨#[107,107]⟩)=f:=Option.some.inj h;kernel_rfl
 | 6,f,h,w=>by obtain rfl:(⟨#[108,101,116]⟩,6,0,⟨#[110,107,107]⟩)=f:=Option.some.inj h;kernel_rfl
 | 7,f,h,w=>by obtain rfl:(⟨#[114,101,99]⟩,7,0,⟨#[110,97,107,107]⟩)=f:=Option.some.inj h;kernel_rfl
 | 8,f,h,w=>by obtain rfl:(⟨#[105,102]⟩,8,0,⟨#[107,107,107]⟩)=f:=Option.some.inj h;kernel_rfl
 | 9,f,h,w=>by obtain rfl:(⟨#[112,97,105,114]⟩,9,0,⟨#[107,107]⟩)=f:=Option.some.inj h;kernel_rfl
 | 10,f,h,w=>by obtain rfl:(⟨#[102,115,116]⟩,10,0,⟨#[107]⟩)=f:=Option.some.inj h;kernel_rfl
 | 11,f,h,w=>by obtain rfl:(⟨#[115,110,100]⟩,11,0,⟨#[107]⟩)=f:=Option.some.inj h;kernel_rfl
 | 12,f,h,w=>by obtain rfl:(⟨#[114,101,102]⟩,12,0,⟨#[107]⟩)=f:=Option.some.inj h;kernel_rfl
 | 13,f,h,w=>by obtain rfl:(⟨#[114,101,97,100]⟩,13,0,⟨#[107]⟩)=f:=Option.some.inj h;kernel_rfl
 | 14,f,h,w=>by obtain rfl:(⟨#[119,114,105,116,101]⟩,14,0,⟨#[107,107]⟩)=f:=Option.some.inj h;kernel_rfl
 | 15,f,h,w=>by obtain rfl:(⟨#[]⟩,15,0,⟨#[103,102]⟩)=f:=Option.some.inj h;kernel_rfl
 | 16,f,h,w=>by obtain rfl:(⟨#[109,97,116,99,104]⟩,16,0,⟨#[107,109]⟩)=f:=Option.some.inj h;kernel_rfl
 | 17,f,h,w=>by obtain rfl:(⟨#[114,97,105,115,101]⟩,17,0,⟨#[107]⟩)=f:=Option.some.inj h;kernel_rfl
 | 18,f,h,w=>by obtain rfl:(⟨#[116,114,121]⟩,18,0,⟨#[107,110,107]⟩)=f:=Option.some.inj h;kernel_rfl
 | 19,f,h,w=>by obtain rfl:(⟨#[97,100,100]⟩,19,0,⟨#[107,107]⟩)=f:=Option.some.inj h;kernel_rfl
 | 20,f,h,w=>by obtain rfl:(⟨#[115,117,98]⟩,19,1,⟨#[107,107]⟩)=f:=Option.some.inj h;kernel_rfl
 | 21,f,h,w=>by obtain rfl:(⟨#[109,117,108]⟩,19,2,⟨#[107,107]⟩)=f:=Option.some.inj h;kernel_rfl
 | 22,f,h,w=>by obtain rfl:(⟨#[108,101,115,115]⟩,19,3,⟨#[107,107]⟩)=f:=Option.some.inj h;kernel_rfl
 | 23,f,h,w=>by obtain rfl:(⟨#[115,97,109,101]⟩,19,4,⟨#[107,107]⟩)=f:=Option.some.inj h;kernel_rfl
 | 24,f,h,w=>by obtain rfl:(⟨#[99,97,116]⟩,19,5,⟨#[107,107]⟩)=f:=Option.some.inj h;kernel_rfl
 | 25,f,h,w=>by obtain rfl:(⟨#[108,101,110]⟩,19,6,⟨#[107]⟩)=f:=Option.some.inj h;kernel_rfl
 | 26,f,h,w=>by obtain rfl:(⟨#[112,114,105,110,116]⟩,20,0,⟨#[107]⟩)=f:=Option.some.inj h;kernel_rfl
 | 27,f,h,w=>by obtain rfl:(⟨#[116,105,99,107]⟩,20,1,⟨#[]⟩)=f:=Option.some.inj h;kernel_rfl
 | 28,f,h,w=>by obtain rfl:(⟨#[100,114,97,119]⟩,20,2,⟨#[107]⟩)=f:=Option.some.inj h;kernel_rfl
 | 29,f,h,w=>by obtain rfl:(⟨#[103,101,116]⟩,20,3,⟨#[107]⟩)=f:=Option.some.inj h;kernel_rfl
 | 30,f,h,w=>by obtain rfl:(⟨#[112,117,116]⟩,20,4,⟨#[107,107]⟩)=f:=Option.some.inj h;kernel_rfl
 | j+31,f,h,w=>by
  have:formsL[j+31]? = none:=List.getElem?_eq_none (by rw[formsL_len];omega);rw[this] at h;cases h
def FormsIn (w:World):Prop:=∃ t fr,w.heap[0]? = some (.cells formsA t fr)
theorem FormsIn.none {w u:World} (h:FormsIn w) (k:w.grownBy u Option.none):FormsIn u:=by
 obtain ⟨t,fr,h⟩:=h;exact ⟨t,fr,(k.block _ (lt_of_block h) (by simp)).trans h⟩
theorem find_from (k n:Int) (j:Nat) (f:Frm) (h:formsL[j]? = some f):(formsL.drop j).find? (hitF k n)=if hitF k n f then some f else (formsL.drop (j+1)).find? (hitF k n):=by
 have hj:j < formsL.length:=(List.getElem?_eq_some_iff.1 h).1;have e:formsL[j]=f:=(List.getElem?_eq_some_iff.1 h).2;rw[List.drop_eq_getElem_cons hj,e,List.find?_cons]
 cases hitF k n f <;> rfl
def formR (k n:Int):Frm:=(formV k n).getD (⟨#[]⟩,0,0,⟨#[]⟩)
def FoA (k n:Int) (e:Ending):Prop:=e = .returned (.tuple #[.agg #[.string (formR k n).1,.int .i64 (formR k n).2.1,.int .i64 (formR k n).2.2.1,.string (formR k n).2.2.2],.bool (formV k n).isSome])
theorem results_cell2F {P:Program} {fn:Func} {p u:Tmp} {ty:TypeId} (h:fn.results=#[.cell p ty,.tmp u]) (tmps:Array Value) (w:World) (g:Nat) (t:TypeId) (cs:Array Value) (fr:Nat × Nat) (d:TypeDesc)
  (hp:tmps.getD p undef = .pointer (some ⟨g,0,none⟩)) (hg:w.heap[g]? = some (.cells cs t fr))
  (hu:P.underlying ty=some d) (hd:(match d with | .struct _ | .array _ _=>true|_=>false)=true) (hi:(P.info? ty).map (·.size)=some cs.size) :
  (results fn tmps).run P w = .ok (.tuple #[.agg cs,tmps.getD u undef]) w:=by
 have hp':tmps[p]?.getD undef = .pointer (some ⟨g,0,none⟩):=by simpa using hp
 simp [results,h,hp',asAddr,run_loadVar_row w g t ty cs fr d hg hu hd hi]
theorem fillF {w:World} {p:Nat} {t:TypeId} {c0 c1 c2 c3:Value} (v0 v1 v2 v3:Value) (h:w.heap[p]? = some (.cells #[c0,c1,c2,c3] t (0,0))) :
  ((((w.setCell ⟨p,0,none⟩ v0).setCell ⟨p,1,none⟩ v1).setCell ⟨p,2,none⟩ v2).setCell ⟨p,3,none⟩ v3).heap[p]? = some (.cells #[v0,v1,v2,v3] t (0,0))∧w.grownBy ((((w.setCell ⟨p,0,none⟩ v0).setCell ⟨p,1,none⟩ v1).setCell ⟨p,2,none⟩ v2).setCell ⟨p,3,none⟩ v3) (some p) :=
 ⟨heap_setCell_same _ p 3 _ t _ (heap_setCell_same _ p 2 _ t _ (heap_setCell_same _ p 1 _ t _ (heap_setCell_same w p 0 _ t _ h))),gtr (gtr (gtr (gsc _ _ _ _) (gsc _ _ _ _)) (gsc _ _ _ _)) (gsc _ _ _ _)⟩
theorem formOfT (k n:Int) (v2 v3 v4 v5 v6:Value) (w:World) (hF:FormsIn w) :
  Calls Tryz.prog 101 #[.agg #[.int .i64 k,.int .i64 n,v2,v3,v4,v5,v6]] w fun e u=>FoA k n e∧w.grownBy u none:=by
 obtain ⟨b0,b1,bsz⟩:=alloc2_blocks w (.cells #[.int .i64 k,.int .i64 n,v2,v3,v4,v5,v6] 36) (.cells #[.string ⟨#[]⟩,.int .i64 0,.int .i64 0,.string ⟨#[]⟩] 129);have g0:=grown_alloc (grown_alloc (grf w none) (.cells #[.int .i64 k,.int .i64 n,v2,v3,v4,v5,v6] 36)) (.cells #[.string ⟨#[]⟩,.int .i64 0,.int .i64 0,.string ⟨#[]⟩] 129);obtain ⟨t,fr,hf0⟩:=hF.none g0;have L0:Hid (w.grownBy _ none∧_=some (Obj.cells #[.int .i64 k,.int .i64 n,v2,v3,v4,v5,v6] 36)∧_=some (Obj.cells #[.string ⟨#[]⟩,.int .i64 0,.int .i64 0,.string ⟨#[]⟩] 129)):=⟨g0,b0,b1⟩;clear g0 b0 b1 hF;go_enter Tryz.func101,Tryz.ntmps101;go_wp2_with (refine wpList_load_row rfl 165 _ rfl 0 rfl t _ fr _ hf0 Tryz.underlying165 rfl (by rw[formsA_size];kernel_rfl) ?_);clear hf0;have P0:Hid (w.heap.size≤w.heap.size∧w.heap.size+1=w.heap.size+1):=⟨Nat.le_refl _,rfl⟩;generalize hp0:w.heap.size=p0 at *;generalize hp1:p0+1=p1 at *;have PP:Hid (w.heap.size≤p1∧p0≠p1):=⟨by omega,by omega⟩
 clear P0
 go_loopw [7] (fun i wr=>∃ j:Nat,j≤31∧i = .int .i64 j∧Hid (w.grownBy wr none∧wr.heap[p0]? = some (Obj.cells #[.int .i64 k,.int .i64 n,v2,v3,v4,v5,v6] 36)∧wr.heap[p1]? = some (Obj.cells #[.string ⟨#[]⟩,.int .i64 0,.int .i64 0,.string ⟨#[]⟩] 129)∧formV k n=(formsL.drop j).find? (hitF k n))) (fun i _=>31 - (intOf i).toNat)
 case atStart=>exact ⟨0,by omega,rfl,L0.out.1,L0.out.2.1,L0.out.2.2,rfl⟩
 case round =>
  clear L0;obtain ⟨j,hj,rfl,HR⟩:=hrel;by_cases hlt:j < 31
  ·
   obtain ⟨f,hf⟩:∃ f,formsL[j]? = some f:=⟨formsL[j]'(by rw[formsL_len];exact hlt),List.getElem?_eq_getElem _⟩;have hix:=idxF j f hf;have hfind:=find_from k n j f hf;obtain ⟨wd,kk,nn,s⟩:=f;simp only at hix;have ga:=gal wr (.cells #[.string wd,.int .i64 kk,.int .i64 nn,.string s] 129) none;have ba:=heap_alloc_new wr (.cells #[.string wd,.int .i64 kk,.int .i64 nn,.string s] 129);have L1:Hid (w.grownBy (wr.alloc (.cells #[.string wd,.int .i64 kk,.int .i64 nn,.string s] 129)) none∧(wr.alloc (.cells #[.string wd,.int .i64 kk,.int .i64 nn,.string s] 129)).heap[p0]? = some (Obj.cells #[.int .i64 k,.int .i64 n,v2,v3,v4,v5,v6] 36)∧(wr.alloc (.cells #[.string wd,.int .i64 kk,.int .i64 nn,.string s] 129)).heap[p1]? = some (Obj.cells #[.string ⟨#[]⟩,.int .i64 0,.int .i64 0,.string ⟨#[]⟩] 129)∧w.heap.size≤p1):=⟨gtr HR.out.1 ga,(ga.block _ (lt_of_block HR.out.2.1) (by simp)).trans HR.out.2.1,(ga.block _ (lt_of_block HR.out.2.2.1) (by simp)).trans HR.out.2.2.1,PP.out.1⟩
   have HV:Hid (formV k n=(formsL.drop j).find? (hitF k n)):=HR.out.2.2.2;obtain ⟨⟨z0,z1,z2,z3,z4,z5,z6⟩,-⟩:=blkE L1.out.2.1;obtain ⟨⟨y0,y1,y2,y3⟩,hfy⟩:=blkF ba;have hqf:=hfy 0;have hqf1:=hfy 1;have hqf2:=hfy 2;have hqf3:=hfy 3;clear HR hfy ga hf;by_cases hk:kk=k
   ·
    subst hk;by_cases hn:nn=n
    ·
     subst hn
     have HH:Hid (formV kk nn=some (wd,kk,nn,s)):=by show _=_;rw[HV.out,hfind,if_pos (by simp [hitF])]
     clear HV hfind;obtain ⟨⟨x0,x1,x2,x3⟩,hfx⟩:=blkF L1.out.2.2.1;have f0:=hfx 0;have f1:=hfx 1;have f2:=hfx 2;have f3:=hfx 3;obtain ⟨m1,k1⟩:=fillF (.string wd) (.int .i64 kk) (.int .i64 nn) (.string s) L1.out.2.2.1;have FQ:Hid _:=And.intro m1 (grown_into L1.out.1 k1 L1.out.2.2.2);clear m1 k1 hfx L1 ba;go_wp2;refine bodyPost_ret (results_cell2F (P:=Tryz.prog) Tryz.results101 _ _ p1 _ _ _ _ rfl FQ.out.1 Tryz.underlying129 rfl (by kernel_rfl)) rfl ?_;refine ⟨?_,FQ.out.2⟩;unfold FoA formR;rw[HH.out];rfl
    ·
     have C1:Hid _:=hasT wd kk nn s 105 (wr.alloc (.cells #[.string wd,.int .i64 kk,.int .i64 nn,.string s] 129));have BA:Hid _:=ba;go_wp2_with fail;refine Calls.mono C1.out ?_;rintro e u ⟨rfl,hg⟩;have L2:Hid (w.grownBy u none∧u.heap[p0]? = some (Obj.cells #[.int .i64 kk,.int .i64 n,v2,v3,v4,v5,v6] 36)∧u.heap[p1]? = some (Obj.cells #[.string ⟨#[]⟩,.int .i64 0,.int .i64 0,.string ⟨#[]⟩] 129)∧w.heap.size≤p1):=⟨gtr L1.out.1 hg,(hg.block _ (lt_of_block L1.out.2.1) (by simp)).trans L1.out.2.1,(hg.block _ (lt_of_block L1.out.2.2.1) (by simp)).trans L1.out.2.2.1,L1.out.2.2.2⟩;have b2:=(hg.block _ (lt_of_block BA.out) (by simp)).trans BA.out;clear C1 hg L1 BA ba y0 y1 y2 y3 z0 z1 z2 z3 z4 z5 z6 hqf hqf1 hqf2 hqf3;obtain ⟨⟨y0,y1,y2,y3⟩,-⟩:=blkF b2;have eL:(((105:UInt8).toNat:Nat):Int)=105:=rfl;clear b2;simp only[]
     cases hb:hasB s 105 with
     | true =>
      rw[eL,hb]
      have HH:Hid (formV kk n=some (wd,kk,nn,s)):=by show _=_;rw[HV.out,hfind,if_pos (by simp [hitF,hb])]
      clear HV hfind;obtain ⟨⟨x0,x1,x2,x3⟩,hfx⟩:=blkF L2.out.2.2.1;have f0:=hfx 0;have f1:=hfx 1;have f2:=hfx 2;have f3:=hfx 3;obtain ⟨m1,k1⟩:=fillF (.string wd) (.int .i64 kk) (.int .i64 nn) (.string s) L2.out.2.2.1;have FQ:Hid _:=And.intro m1 (grown_into L2.out.1 k1 L2.out.2.2.2);clear m1 k1 hfx L2;go_wp2;refine bodyPost_ret (results_cell2F (P:=Tryz.prog) Tryz.results101 _ _ p1 _ _ _ _ rfl FQ.out.1 Tryz.underlying129 rfl (by kernel_rfl)) rfl ?_;refine ⟨?_,FQ.out.2⟩;unfold FoA formR;rw[HH.out];rfl
     | false =>
      rw[eL,hb]
      have HH:Hid (formV kk n=(formsL.drop (j+1)).find? (hitF kk n)):=by show _=_;rw[HV.out,hfind,if_neg (by simp [hitF,hn,hb])]
      clear HV hfind;have FZ:Hid (w.grownBy u none∧u.heap[p0]? = some (Obj.cells #[.int .i64 kk,.int .i64 n,v2,v3,v4,v5,v6] 36)∧u.heap[p1]? = some (Obj.cells #[.string ⟨#[]⟩,.int .i64 0,.int .i64 0,.string ⟨#[]⟩] 129)∧formV kk n=(formsL.drop (j+1)).find? (hitF kk n)):=⟨L2.out.1,L2.out.2.1,L2.out.2.2.1,HH.out⟩;clear L2;go_wp2;go_roundw
      case rel=>exact ⟨j+1,by omega,by go_num,FZ⟩
      case measure=>simp [intOf];omega
   ·
    have HH:Hid (formV k n=(formsL.drop (j+1)).find? (hitF k n)):=by show _=_;rw[HV.out,hfind,if_neg (by simp [hitF,hk])]
    clear HV hfind ba;have FZ:Hid (w.grownBy (wr.alloc (.cells #[.string wd,.int .i64 kk,.int .i64 nn,.string s] 129)) none∧(wr.alloc (.cells #[.string wd,.int .i64 kk,.int .i64 nn,.string s] 129)).heap[p0]? = some (Obj.cells #[.int .i64 k,.int .i64 n,v2,v3,v4,v5,v6] 36)∧(wr.alloc (.cells #[.string wd,.int .i64 kk,.int .i64 nn,.string s] 129)).heap[p1]? = some (Obj.cells #[.string ⟨#[]⟩,.int .i64 0,.int .i64 0,.string ⟨#[]⟩] 129)∧formV k n=(formsL.drop (j+1)).find? (hitF k n)):=⟨L1.out.1,L1.out.2.1,L1.out.2.2.1,HH.out⟩;clear L1;go_wp2;go_roundw
    case rel=>exact ⟨j+1,by omega,by go_num,FZ⟩
    case measure=>simp [intOf];omega
  ·
   obtain rfl:j=31:=by omega
   have HH:Hid (formV k n=none):=by show _=_;rw[HR.out.2.2.2];rfl
   obtain ⟨⟨x0,x1,x2,x3⟩,hfx⟩:=blkF HR.out.2.2.1;have f0:=hfx 0;have f1:=hfx 1;have f2:=hfx 2;have f3:=hfx 3;obtain ⟨m1,k1⟩:=fillF (.string ⟨#[]⟩) (.int .i64 0) (.int .i64 0) (.string ⟨#[]⟩) HR.out.2.2.1;have FQ:Hid _:=And.intro m1 (grown_into HR.out.1 k1 PP.out.1);clear m1 k1 hfx HR;go_wp2;refine bodyPost_ret (results_cell2F (P:=Tryz.prog) Tryz.results101 _ _ p1 _ _ _ _ rfl FQ.out.1 Tryz.underlying129 rfl (by kernel_rfl)) rfl ?_;refine ⟨?_,FQ.out.2⟩;unfold FoA;unfold formR;rw[HH.out];rfl
set_option maxRecDepth 100000
def cellsF (f:Frm):List Value:=[.string f.1,.int .i64 f.2.1,.int .i64 f.2.2.1,.string f.2.2.2]
def datF {H:Type} (f:Frm):DataW H:=.agg [.lit (.string f.1.data.toList),.lit (.int .i64 f.2.1),.lit (.int .i64 f.2.2.1),.lit (.string f.2.2.2.data.toList)]
theorem formsA_cells:formsA.toList=formsL.flatMap cellsF:=by kernel_rfl
theorem laid_dat:(Rows.laid_loop_example_g00293_impl_forms:DataW Unit) = .agg (formsL.map datF):=by kernel_rfl
theorem rows_join:∀ (rows:List Frm) (cs:List Value),cs.length=rows.length * 4→(∀ i f,rows[i]? = some f→(cs.drop (i * 4)).take 4=cellsF f)→cs=rows.flatMap cellsF
 | [],cs,h,_=>by simpa using h
 | f::rows,cs,h,H=>by
  have h0:cs.take 4=cellsF f:=by simpa using H 0 f rfl
  have ht:cs.drop 4=rows.flatMap cellsF:=rows_join rows (cs.drop 4) (by simp at h ⊢;omega) (fun i g hg=>by
   have:=H (i+1) g (by simpa using hg);rw[List.drop_drop]
   have e:4+i * 4=(i+1) * 4:=by omega
   rw[e];exact this)
  rw[List.flatMap_cons,← h0,← ht,List.take_append_drop]
theorem bytes_of {s u:ByteArray} (h:s.data.toList=u.data.toList):s=u:=by
 cases s;cases u
 simp at h;subst h;rfl
section
variable {H:Type} {enc:TypeId × Value→H} {W:World} {base:Nat} {spare:Nat→Bool} {held:Bool}
theorem frm_of {m:Nat} {cs:List Value} {f:Frm} {p:List MemPlace} (h:DataW.trod enc Tryz.prog W base spare held m 129 cs=some (datF f,p)):cs=cellsF f:=by
 have c3:Tryz.prog.cellsOf 3=1:=by kernel_rfl
 have c9:Tryz.prog.cellsOf 9=1:=by kernel_rfl
 have c4:Tryz.prog.cellsOf 129=4:=by kernel_rfl
 obtain ⟨xs,n,hn,hx,hl,hxl,hf⟩:=DataW.trod_struct Tryz.underlying129 h;have f0:DataW.trod enc Tryz.prog W base spare held n 9 ((cs.drop 0).take (Tryz.prog.cellsOf 9))=xs[0]?:=hf 0 _ rfl;have f1:DataW.trod enc Tryz.prog W base spare held n 3 ((cs.drop 1).take (Tryz.prog.cellsOf 3))=xs[1]?:=hf 1 _ rfl;have f2:DataW.trod enc Tryz.prog W base spare held n 3 ((cs.drop 2).take (Tryz.prog.cellsOf 3))=xs[2]?:=hf 2 _ rfl;have f3:DataW.trod enc Tryz.prog W base spare held n 9 ((cs.drop 3).take (Tryz.prog.cellsOf 9))=xs[3]?:=hf 3 _ rfl;rw[c9] at f0 f3;rw[c3] at f1 f2;have hx4:xs.length=4:=hxl;rw[c4] at hl
 match cs,hl with
 | [v0,v1,v2,v3],_ =>
 match xs,hx4 with
 | [x0,x1,x2,x3],_ =>
 obtain ⟨s0,e0,d0,_⟩:=DataW.trod_string Tryz.underlying9 (show DataW.trod enc Tryz.prog W base spare held n 9 [v0]=some x0 from f0);obtain ⟨n1,e1,d1,_⟩:=DataW.trod_int Tryz.underlying3 (show DataW.trod enc Tryz.prog W base spare held n 3 [v1]=some x1 from f1);obtain ⟨n2,e2,d2,_⟩:=DataW.trod_int Tryz.underlying3 (show DataW.trod enc Tryz.prog W base spare held n 3 [v2]=some x2 from f2);obtain ⟨s3,e3,d3,_⟩:=DataW.trod_string Tryz.underlying9 (show DataW.trod enc Tryz.prog W base spare held n 9 [v3]=some x3 from f3);subst d0 d1 d2 d3;have hd:=congrArg Prod.fst hx;simp only[datF,List.map_cons,List.map_nil,DataW.agg.injEq,List.cons.injEq,DataW.lit.injEq,Lit.string.injEq,Lit.int.injEq,true_and,and_true] at hd;obtain ⟨q0,q1,q2,q3⟩:=hd
 cases e0;cases e1;cases e2;cases e3
 unfold cellsF;rw[bytes_of q0,q1,q2,bytes_of q3]
theorem forms_of {fuel:Nat} {cs:List Value} {p:List MemPlace} (h:DataW.trod enc Tryz.prog W base spare held fuel 165 cs=some (.agg (formsL.map datF),p)):cs=formsA.toList:=by
 have c4:Tryz.prog.cellsOf 129=4:=by kernel_rfl
 have c124:Tryz.prog.cellsOf 165=124:=by kernel_rfl
 obtain ⟨xs,m,hm,hx,hl,hxl,he⟩:=DataW.trod_array Tryz.underlying165 h;rw[c124] at hl
 have hd:formsL.map datF=xs.map (·.1):=by
  have:=congrArg Prod.fst hx;simpa only [DataW.agg.injEq] using this
 rw[formsA_cells]
 refine rows_join formsL cs (by rw[hl,formsL_len]) fun i f hf=>?_
 have hi:i < 31:=by
  have:=(List.getElem?_eq_some_iff.1 hf).1
  rwa [formsL_len] at this
 have h1:=he i hi;rw[c4] at h1
 have h2:(xs.map (·.1))[i]? = some (datF f):=by rw[← hd,List.getElem?_map,hf];rfl
 rw[List.getElem?_map] at h2;obtain ⟨⟨y,z⟩,hy,hz⟩:=Option.map_eq_some_iff.1 h2;rw[hy] at h1;obtain rfl:y=datF f:=hz;exact frm_of h1
end
theorem formsIn_of_laid {W : World} {rest : List (String × DataW Unit)} (h : laidMet Tryz.prog (("loop.example/g00293/impl.forms", Rows.laid_loop_example_g00293_impl_forms) :: rest) W) : FormsIn W := by
 obtain ⟨ps,⟨g,t,cs,fuel,p,q,hg,ht,hvar,hd,_,_⟩,_⟩:=h;obtain rfl := Option.some.inj ((show Tryz.prog.globalNamed "loop.example/g00293/impl.forms" = some 0 by kernel_rfl).symm.trans hg);obtain rfl:=Option.some.inj ((show (Tryz.prog.globals[0]?).map (·.type)=some 165 by kernel_rfl).symm.trans ht);rw[laid_dat] at hd;have hc:cs.toList=formsA.toList:=forms_of hd
 obtain rfl:cs=formsA:=by
  cases cs;cases hfa:formsA
  rw[hfa] at hc;simp at hc;rw[hc]
 unfold World.var? at hvar;rw[hg] at hvar;simp only[Option.bind_some] at hvar
 split at hvar
 ·
  rename_i c t' fr hh
  exact ⟨t',fr,by rw[hh];cases hvar;rfl⟩
 ·
  cases hvar
end Go.Proofs.YtblbnillilbacaaGreatDoor.By
