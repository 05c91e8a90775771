/-
  No statement is proved here.
-/
import Derived.Test.YtblbnillilbacaaGreatDoorGOpEa
import Derived.Test.YtblbnillilbacaaGreatDoorSSrca
namespace Go.Proofs.YtblbnillilbacaaGreatDoor.By
set_option maxRecDepth 100000
set_option maxHeartbeats 16000000
open Go.ChangeShapes Go.WideShapes Go.ChangeAt Go.RowKit Go.Deep
set_option linter.unusedVariables false
set_option maxRecDepth 100000
theorem arr8 {cs:Array Value} (h:cs.size=8):∃ v0 v1 v2 v3 v4 v5 v6 v7,cs=#[v0,v1,v2,v3,v4,v5,v6,v7]:=by
 obtain ⟨l⟩:=cs
 match l,h with
 | [v0,v1,v2,v3,v4,v5,v6,v7],_=>exact ⟨v0,v1,v2,v3,v4,v5,v6,v7,rfl⟩
section
variable {H:Type} {enc:TypeId × Value→H} {W:World} {base:Nat} {spare:Nat→Bool} {held:Bool}
theorem openDaR (fuel:Nat) (v:Value) (x:DataW H × List MemPlace) (h:DataW.trod enc Tryz.prog W base spare held fuel 22 [v]=some x):∃ a l c ds,v = .slice a l c∧SlDc W a l c ds:=by
 rcases DataW.trod_slice Tryz.underlying22 h with ⟨hcs,_⟩|⟨y,l,c,elems,rest,n',hn',hcs,_,hb,hl,hm,hlen,hel,_,_⟩
 ·
  simp at hcs;exact ⟨none,0,0,[],hcs,⟨rfl,by omega,.inl rfl⟩,by omega⟩
 ·
  simp at hcs
  have hm':c≤9223372036854775807:=by simpa [maxLen] using hm
  have hC:Tryz.prog.cellsOf 63=3:=by kernel_rfl
  rw[hC] at hel
  have hel2:∀ i,i < l→∃ (da:Da) (a:Option Addr) (n c:Nat) (a':Option Addr) (l' c':Nat),W.cell? (y.add (i * 3))=some (.slice a n c)∧W.cell? ((y.add (i * 3)).add 1)=some (.int .i64 da.vars)∧W.cell? ((y.add (i * 3)).add 2)=some (.slice a' l' c')∧RdB W a n da.name∧SlCo W a' l' da.cons:=by
   intro i hi;have h1:=hel i hi;rw[List.getElem?_eq_getElem (by omega),Option.bind_eq_some_iff] at h1;obtain ⟨cs',h1,h2⟩:=h1;obtain ⟨_,hlen',hcell⟩:=World.cells?_some h1
   match cs',hlen' with
   | [v0,v1,v2],_ =>
    obtain ⟨da,a,n,c,a',l',c',rfl,rfl,rfl,hz,hd⟩:=openDa _ v0 v1 v2 _ h2;have k0:=hcell 0 (by omega);have k1:=hcell 1 (by omega);have k2:=hcell 2 (by omega);exact ⟨da,a,n,c,a',l',c',by simpa [Addr.add] using k0,by simpa using k1,by simpa using k2,hz,hd⟩
  by_cases h0:l=0
  ·
   subst h0;exact ⟨some y,0,c,[],hcs,⟨rfl,by omega,.inl rfl⟩,by omega⟩
  obtain ⟨_,_,_,_,_,_,_,hz0,_⟩:=hel2 0 (by omega);have e:=plain_at (by simpa [Addr.add] using hz0)
  obtain ⟨f,hf,hin⟩:=inDa_of_each (W:=W) (b:=y.block) l y.off (fun i hi=>by
   obtain ⟨da,a,n,c,a',l',c',q0,q1,q2,hz,hd⟩:=hel2 i hi;rw[e,add_plain] at q0 q1 q2;rw[add_plain] at q1 q2
   exact ⟨da,a,n,c,a',l',c',q0,q1,q2,hz,hd⟩)
  exact ⟨some y,l,c,f,hcs,⟨hf,by omega,.inr ⟨y.block,y.off,by rw[← e],hin⟩⟩,by omega⟩
theorem openSrcT {b0:Nat} {v:Value} {dd:DataW H} {p:List MemPlace} (hv:Value.okWide Tryz.prog W .any b0 29 v) (h:DataW.Trod enc Tryz.prog W base spare held 29 v dd p) :
  ∃ (x:RSrc) (a0:Option Addr) (l0 c0:Nat) (a1:Option Addr) (l1 c1:Nat) (a2:Option Addr) (l2 c2:Nat) (a3:Option Addr) (l3 c3:Nat) (a4:Option Addr) (l4 c4:Nat) (a5:Option Addr) (l5 c5:Nat),v = .agg #[.slice a0 l0 c0,.int .i64 x.p.k,.int .i64 x.p.n,.slice a1 l1 c1,.slice a2 l2 c2,.slice a3 l3 c3,.slice a4 l4 c4,.slice a5 l5 c5]∧RdSrc W x a0 l0 c0 a1 l1 c1 a2 l2 c2 a3 l3 c3 a4 l4 c4 a5 l5 c5:=by
 have hC:Tryz.prog.cellsOf 29=8:=by kernel_rfl
 obtain ⟨cs,rfl,hsz⟩:=okWide_struct Tryz.underlying29 hv;obtain ⟨v0,v1,v2,v3,v4,v5,v6,v7,rfl⟩:=arr8 (hsz.trans hC);obtain ⟨fuel,hf⟩:=h
 have hf':DataW.trod enc Tryz.prog W base spare held fuel 29 [v0,v1,v2,v3,v4,v5,v6,v7]=some (dd,p):=by simpa [Value.cells] using hf
 cases fuel with
 | zero=>simp [DataW.trod] at hf'
 | succ fuel =>
  obtain ⟨xs,n',hn',_,_,hxl,hfs⟩:=DataW.trod_struct Tryz.underlying29 hf'
  obtain rfl:fuel=n':=by omega
  have c1:Tryz.prog.cellsOf 22=1:=by kernel_rfl
  have c7:Tryz.prog.cellsOf 27=7:=by kernel_rfl
  have f0:DataW.trod enc Tryz.prog W base spare held fuel 22 (([v0,v1,v2,v3,v4,v5,v6,v7].drop 0).take (Tryz.prog.cellsOf 22))=xs[0]?:=hfs 0 _ rfl;have f1:DataW.trod enc Tryz.prog W base spare held fuel 27 (([v0,v1,v2,v3,v4,v5,v6,v7].drop 1).take (Tryz.prog.cellsOf 27))=xs[1]?:=hfs 1 _ rfl;rw[c1] at f0;rw[c7] at f1;have hx2:xs.length=2:=hxl;rw[List.getElem?_eq_getElem (by omega)] at f0 f1;obtain ⟨a0,l0,c0,ds,rfl,hd⟩:=openDaR fuel v0 _ (by simpa using f0);obtain ⟨p,kids,alts,a1,l1,c1,a2,l2,c2,a3,l3,c3,a4,l4,c4,a5,l5,c5,⟨rfl,rfl,rfl,rfl,rfl,rfl,rfl⟩,hnd⟩:=(openExpr (enc:=enc) (W:=W) (base:=base) (spare:=spare) (held:=held) fuel).1 v1 v2 v3 v4 v5 v6 v7 _ (by simpa using f1);exact ⟨⟨ds,p,kids,alts⟩,a0,l0,c0,a1,l1,c1,a2,l2,c2,a3,l3,c3,a4,l4,c4,a5,l5,c5,rfl,hd,hnd⟩
end
open Go.RowKit
set_option linter.unusedSimpArgs false
def lodB (z:Int):Bool:=(decide (97≤z) && decide (z≤122)) || (decide (48≤z) && decide (z≤57))
def wordR (lo hi:Int) (j:Nat) (R:List Int):Bool :=
 if j=0 then (match R with | []=>true|z::r=>(decide (lo≤z) && decide (z≤hi)) && r.all lodB) else R.all lodB
def wordV (lo hi:Int) (zs:List Int):Bool:=decide (1≤zs.length) && decide (zs.length≤8) && wordR lo hi 0 zs
theorem wordR_end (lo hi:Int) (j:Nat):wordR lo hi j []=true:=by unfold wordR;split <;> rfl
theorem wordR_step (lo hi:Int) (j:Nat) (z:Int) (r:List Int):wordR lo hi j (z::r)=((if j=0 then decide (lo≤z) && decide (z≤hi) else lodB z) && wordR lo hi (j+1) r):=by
 unfold wordR;by_cases h:j=0
 ·
  simp [h]
 ·
  simp [h]
theorem List.getElem?_drop_zero_of (zs:List Int) (j:Nat):(zs.drop j)[0]? = zs[j]?:=by simp
theorem str_size (zs:List Int):(strOfNums zs).size=zs.length:=strOfNums_size zs
theorem str_at {zs:List Int} (hz:Byt zs) {i:Nat} (h:i < (strOfNums zs).size):(((strOfNums zs)[i]'h).toNat:Int)=zs.getD i 0:=by
 have hi:i < zs.length:=by rw[strOfNums_size] at h;exact h
 have hb:=hz zs[i] (List.getElem_mem hi)
 have e:(strOfNums zs)[i]'h=UInt8.ofNat (zs[i]).toNat:=by
  show (strOfNums zs).data[i]'_=_
  simp [strOfNums]
 rw[e,List.getD_eq_getElem?_getD,List.getElem?_eq_getElem hi];simp only[Option.getD_some];rw[UInt8.toNat_ofNat'];omega
theorem conv_run {w:World} {a:Option Addr} {n c:Nat} {zs:List Int} (h:Reads w a n zs):(convert 23 9 (.slice a n c)).run Tryz.prog w = .ok (.string (strOfNums zs)) w:=by
 obtain ⟨hl,h⟩:=h;rcases h with rfl|⟨b,o,rfl,hc⟩
 ·
  obtain rfl:zs=[]:=List.eq_nil_of_length_eq_zero hl
  cases a with
  | none =>
   have:=run_convert_bytes_nil (P:=Tryz.prog) w 23 5 Tryz.underlying23 Tryz.underlying5 0 c 9 Tryz.underlying9;rw[this];rfl
  | some x =>
   have hl0:(loadCells x 0).run Tryz.prog w = .ok (([]:List Int).map (Value.int .u8)).toArray w:=by
    have:=run_loadCells_list (P:=Tryz.prog) w x ([]:List Value) (fun j v hj=>by simp at hj);simpa using this
   rw[run_convert_bytes_string w 23 9 5 _ 0 c Tryz.underlying23 Tryz.underlying5 Tryz.underlying9,run_bytesToString w x 0 c [] hl0];rfl
 ·
  exact run_convert_bytes_arg (P:=Tryz.prog) w 23 5 Tryz.underlying23 Tryz.underlying5 b o n c zs hl hc 9 Tryz.underlying9
theorem isWordT (a:Option Addr) (n c:Nat) (zs:List Int) (lo hi:Int) (w:World) (h:RdB w a n zs) (hlo:0≤lo) (hhi:hi≤122) (hhi0:0≤hi) (hlo1:lo≤122) :
  Calls Tryz.prog 129 #[.slice a n c,.int .i32 lo,.int .i32 hi] w fun e u=>e = .returned (.bool (wordV lo hi zs))∧w.grownBy u none:=by
 have hl:=h.1.1;have hcv:(convert 23 9 (.slice a n c)).run Tryz.prog w = .ok (.string (strOfNums zs)) w:=conv_run h.1;have hz:=h.2.1;clear h;by_cases hn:1≤n∧n≤8
 rotate_left
 ·
  have E:Hid (wordV lo hi zs=false):=by
   show _=_
   unfold wordV;rw[hl];by_cases h1:1≤n
   ·
    have:¬ n≤8:=fun h2=>hn ⟨h1,h2⟩
    simp [this]
   ·
    simp [h1]
  by_cases h0:n=0
  ·
   subst h0;go_enter Tryz.func129,Tryz.ntmps129;go_wp2;go_ret;exact ⟨by rw[E.out];rfl,grf _ _⟩
  ·
   have h8:(n:Int) > 8:=by omega
   have h00:¬ (n:Int)=0:=by omega
   go_enter Tryz.func129,Tryz.ntmps129;go_wp2;go_ret;exact ⟨by rw[E.out];rfl,grf _ _⟩
 obtain ⟨hn1,hn8⟩:=hn
 have E:Hid (wordV lo hi zs=wordR lo hi 0 zs):=by show _=_;unfold wordV;simp [hl,hn1,hn8]
 have HZ:Hid (Byt zs∧zs.length=n):=⟨hz,hl⟩
 have h00:¬ (n:Int)=0:=by omega
 have h8:¬ (n:Int) > 8:=by omega
 have hsz:=str_size zs;rw[hl] at hsz;generalize hS:strOfNums zs=S at *;have HS:Hid (strOfNums zs=S):=hS;clear hS hz hl;go_enter Tryz.func129,Tryz.ntmps129;go_wp2
 go_loopw [] (fun w'=>∃ (j:Nat) (R:List Int),w' = w.iter S j∧j≤n∧R.length+j=n∧Hid (zs.drop j=R∧wordR lo hi 0 zs=wordR lo hi j R)) (fun w'=>S.size - w'.iterPos w.heap.size)
 case atStart=>exact ⟨0,zs,rfl,Nat.zero_le _,by have:=HZ.out.2;omega,rfl,rfl⟩
 case round =>
  obtain ⟨j,R,rfl,hj,hRl,HR⟩:=hrel;by_cases hp:j < S.size
  ·
   obtain ⟨z,R',rfl⟩:∃ z R',R=z::R':=by
    cases R with
    | nil=>simp at hRl;omega
    | cons z R'=>exact ⟨z,R',rfl⟩
   have hjz:zs.getD j 0=z:=by
    have h1:=HR.out.1;rw[List.getD_eq_getElem?_getD,← By.List.getElem?_drop_zero_of zs j,h1];rfl
   have hb:=HZ.out.1
   obtain ⟨rho,k,hnx,hrho⟩:∃ (rho k:Nat),(∀ ty,(Instr.next (.pointer (some ⟨w.heap.size,0,none⟩)) true ty).run Tryz.prog (w.iter S j) = .ok (.tuple #[.bool true,.int .i64 j,.int .i32 rho]) (w.iter S (j+k)))∧(((rho:Int)=z∧k=1)∨(128≤(rho:Int)∧128≤z∧(rho:Int)≤2147483647)):=by
    have hz1:(((S[j]'hp).toNat:Nat):Int)=z:=by
     have:=HS.out;subst this;rw[str_at hb hp,hjz]
    by_cases ha:(S[j]'hp).toNat < 128
    ·
     exact ⟨(S[j]'hp).toNat,1,fun ty=>run_next_ascii w S j ty hp ha,.inl ⟨hz1,rfl⟩⟩
    ·
     refine ⟨(Utf8.decode S j).1,(Utf8.decode S j).2,fun ty=>run_next_any w S j ty hp,.inr ⟨?_,by omega,?_⟩⟩
     ·
      have:=(decode_high S j hp (by omega)).1;omega
     ·
      have:=decode_le S j;omega
   have HW:Hid (zs.drop (j+1)=R'∧wordR lo hi 0 zs=((if j=0 then decide (lo≤z) && decide (z≤hi) else lodB z) && wordR lo hi (j+1) R')):=⟨by have:=congrArg List.tail HR.out.1;simpa using this,by rw[HR.out.2,wordR_step]⟩
   have hjn:j < n:=by omega
   have GI:Hid (∀ q,w.grownBy (w.iter S q) none):=fun q=>gal _ _ _
   simp only[lB] at hRl;generalize (rho:Int)=r at *;clear HR hjz hb hp;by_cases hj0:j=0
   ·
    subst hj0;by_cases c1:lo≤r∧r≤hi
    ·
     obtain ⟨c1,c2⟩:=c1
     obtain ⟨rfl,rfl⟩:r=z∧k=1:=by rcases hrho with h|h <;> omega
     have HV:Hid (wordR lo hi 0 zs=wordR lo hi 1 R'):=by show _=_;rw[HW.out.2];simp [c1,c2]
     go_wp2;go_roundw
     case rel=>exact ⟨1,R',rfl,by omega,by omega,HW.out.1,HV.out⟩
     case measure=>simp;omega
    ·
     have HV:Hid (wordR lo hi 0 zs=false):=by
      show _=_
      rw[HW.out.2]
      have:¬ (lo≤z∧z≤hi):=by rcases hrho with h|h <;> omega
      simp only[if_pos rfl];by_cases q1:lo≤z
      ·
       have q2:¬ z≤hi:=fun q=>this ⟨q1,q⟩
       simp [q2]
      ·
       simp [q1]
     by_cases q1:lo≤r
     ·
      have q2:¬ r≤hi:=fun q=>c1 ⟨q1,q⟩
      go_wp2;go_ret;exact ⟨by rw[E.out,HV.out];rfl,GI.out _⟩
     ·
      go_wp2;go_ret;exact ⟨by rw[E.out,HV.out];rfl,GI.out _⟩
   ·
    have hj1:¬ (j:Int)=0:=by omega
    have hj2:(j:Int) > 0:=by omega
    have hj3:((j:Int) == 0)=false:=by simp;omega
    have hbad:lodB r=false→Hid (wordR lo hi 0 zs=false):=fun hr=>by
     show _=_
     rw[HW.out.2,if_neg hj0]
     have:lodB z=false:=by
      rcases hrho with h|h
      ·
       rw[← h.1];exact hr
      ·
       unfold lodB;simp;omega
     rw[this];rfl
    have hgood:lodB r=true→(r=z∧k=1)∧Hid (wordR lo hi 0 zs=wordR lo hi (j+1) R'):=fun hr=>by
     have hh:r=z∧k=1:=by
      rcases hrho with h|h
      ·
       exact h
      ·
       unfold lodB at hr;simp at hr;omega
     refine ⟨hh,?_⟩
     show _=_
     rw[HW.out.2,if_neg hj0,← hh.1,hr];rfl
    clear hrho;by_cases c1:97≤r
    ·
     by_cases c2:r≤122
     ·
      obtain ⟨⟨rfl,rfl⟩,HV⟩:=hgood (by unfold lodB;simp;omega);clear hgood hbad;go_wp2;go_roundw
      case rel=>exact ⟨j+1,R',rfl,by omega,by omega,HW.out.1,HV.out⟩
      case measure=>simp;omega
     ·
      have c3:48≤r:=by omega
      have c4:¬ r≤57:=by omega
      have HV:=hbad (by unfold lodB;simp;omega);clear hgood hbad;go_wp2;go_ret;exact ⟨by rw[E.out,HV.out];rfl,GI.out _⟩
    ·
     by_cases c3:48≤r
     ·
      by_cases c4:r≤57
      ·
       obtain ⟨⟨rfl,rfl⟩,HV⟩:=hgood (by unfold lodB;simp;omega);clear hgood hbad;go_wp2;go_roundw
       case rel=>exact ⟨j+1,R',rfl,by omega,by omega,HW.out.1,HV.out⟩
       case measure=>simp;omega
      ·
       have HV:=hbad (by unfold lodB;simp;omega);clear hgood hbad;go_wp2;go_ret;exact ⟨by rw[E.out,HV.out];rfl,GI.out _⟩
     ·
      have HV:=hbad (by unfold lodB;simp;omega);clear hgood hbad;go_wp2;go_ret;exact ⟨by rw[E.out,HV.out];rfl,GI.out _⟩
  ·
   have hnx:∀ ty,(Instr.next (.pointer (some ⟨w.heap.size,0,none⟩)) true ty).run Tryz.prog (w.iter S j)=_:=fun ty=>run_next_end w S j ty hp
   obtain rfl:R=[]:=List.eq_nil_of_length_eq_zero (by omega);have HV:Hid (wordR lo hi 0 zs=true∧w.grownBy (w.iter S j) none):=⟨by rw[HR.out.2,wordR_end],gal _ _ _⟩;clear HR;go_wp2;go_ret;exact ⟨by rw[E.out,HV.out.1];rfl,HV.out.2⟩
theorem isSmallT (a:Option Addr) (n c:Nat) (zs:List Int) (w:World) (h:RdB w a n zs) :
  Calls Tryz.prog 127 #[.slice a n c] w fun e u=>e = .returned (.bool (wordV 97 122 zs))∧w.grownBy u none:=by
 have C:Hid _:=isWordT a n c zs 97 122 w h (by omega) (by omega) (by omega) (by omega);clear h;go_enter Tryz.func127,Tryz.ntmps127;go_wp2_with fail;refine Calls.mono C.out ?_;rintro e u ⟨rfl,hg⟩;clear C;go_wp2;go_ret;exact ⟨rfl,hg⟩
theorem isGreatT (a:Option Addr) (n c:Nat) (zs:List Int) (w:World) (h:RdB w a n zs) :
  Calls Tryz.prog 97 #[.slice a n c] w fun e u=>e = .returned (.bool (wordV 65 90 zs))∧w.grownBy u none:=by
 have C:Hid _:=isWordT a n c zs 65 90 w h (by omega) (by omega) (by omega) (by omega);clear h;go_enter Tryz.func97,Tryz.ntmps97;go_wp2_with fail;refine Calls.mono C.out ?_;rintro e u ⟨rfl,hg⟩;clear C;go_wp2;go_ret;exact ⟨rfl,hg⟩
def kwL:List Int:=[102,110,32,108,101,116,32,114,101,99,32,105,102,32,112,97,105,114,32,102,115,116,32,115,110,100,32,114,101,102,32,114,101,97,100,32,119,114,105,116,101,32,109,97,116,99,104,32,114,97,105,115,101,32,116,114,121,32,97,100,100,32,115,117,98,32,109,117,108,32,108,101,115,115,32,115,97,109,101,32,99,97,116,32,108,101,110,32,112,114,105,110,116,32,116,105,99,107,32,100,114,97,119,32,103,101,116,32,112,117,116,32,100,97,116,97,32,117,110,105,116,32,105,110,116,32,116,101,120,116,32,102,117,110,32]
def scanK (zs:List Int):List Int→List Int→Bool
 | [],_=>false
 | z::r,cur=>if z=32 then (decide (cur=zs) || scanK zs r []) else scanK zs r (cur++[z])
def keysL:List (List Int):=[[102,110],[108,101,116],[114,101,99],[105,102],[112,97,105,114],[102,115,116],[115,110,100],[114,101,102],[114,101,97,100],[119,114,105,116,101],[109,97,116,99,104],[114,97,105,115,101],[116,114,121],[97,100,100],[115,117,98],[109,117,108],[108,101,115,115],[115,97,109,101],[99,97,116],[108,101,110],[112,114,105,110,116],[116,105,99,107],[100,114,97,119],[103,101,116],[112,117,116],[100,97,116,97],[117,110,105,116],[105,110,116],[116,101,120,116],[102,117,110]]
def keyV (zs:List Int):Bool:=keysL.any fun k=>decide (k=zs)
theorem scan_key (zs:List Int):scanK zs kwL []=keyV zs:=by kernel_rfl
theorem kw_all:kwL.all (fun z=>decide (0≤z) && decide (z < 128))=true:=by kernel_rfl
theorem kw_ascii:∀ z ∈ kwL,0≤z∧z < 128:=fun z hz=>by have:=List.all_eq_true.1 kw_all z hz;simpa using this
theorem kw_byt:Byt kwL:=fun z hz=>by have:=kw_ascii z hz;omega
theorem keys_byt:∀ k ∈ keysL,Byt k:=by unfold keysL Byt;decide
theorem str_inj {xs ys:List Int} (hx:Byt xs) (hy:Byt ys) (h:strOfNums xs=strOfNums ys):xs=ys:=by
 have hl:xs.map (fun n=>UInt8.ofNat n.toNat)=ys.map (fun n=>UInt8.ofNat n.toNat):=by
  have:=congrArg (fun s:ByteArray=>s.data.toList) h;simpa [strOfNums] using this
 clear h
 induction xs generalizing ys with
 | nil =>
  cases ys with
  | nil=>rfl
  | cons y ys=>simp at hl
 | cons x xs ih =>
  cases ys with
  | nil=>simp at hl
  | cons y ys =>
   simp only[List.map_cons,List.cons.injEq] at hl;have h1:=hx x (by simp);have h2:=hy y (by simp);have e:=congrArg UInt8.toNat hl.1;rw[UInt8.toNat_ofNat',UInt8.toNat_ofNat'] at e
   have:x=y:=by omega
   rw[this,ih (fun z hz=>hx z (List.mem_cons_of_mem _ hz)) (fun z hz=>hy z (List.mem_cons_of_mem _ hz)) hl.2]
theorem str_eq {xs ys:List Int} (hx:Byt xs) (hy:Byt ys):decide (strOfNums xs=strOfNums ys)=decide (xs=ys):=by
 by_cases h:xs=ys
 ·
  simp [h]
 ·
  have:¬ strOfNums xs=strOfNums ys:=fun e=>h (str_inj hx hy e)
  simp [h,this]
theorem str_extract (xs:List Int) (a b:Nat):(strOfNums xs).extract a b=strOfNums ((xs.drop a).take (b - a)):=by
 unfold strOfNums;rw[ByteArray.extract_mk,List.map_take,List.map_drop]
theorem byt_part {xs:List Int} (h:Byt xs) (a b:Nat):Byt ((xs.drop a).take b):=fun z hz=>h z (List.mem_of_mem_drop (List.mem_of_mem_take hz))
end Go.Proofs.YtblbnillilbacaaGreatDoor.By
