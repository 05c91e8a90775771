/-
  No statement is proved here.
-/
import Derived.Test.YtblbnillilbacaaGreatDoorEK0Alsoa
import Derived.Lib.Bytealg
namespace Go.Proofs.YtblbnillilbacaaGreatDoor.By
set_option maxRecDepth 100000
set_option maxHeartbeats 16000000
open Go.RowKit
set_option linter.unusedVariables false
set_option linter.unusedSimpArgs false
theorem toL_beq (s t:ByteArray):(s.toList == t.toList)=decide (s=t):=by
 by_cases h:s=t
 ·
  simp [h]
 ·
  have:¬ s.toList=t.toList:=fun e=>h (by
   rw[ByteArray.toList_eq,ByteArray.toList_eq] at e
   exact ByteArray.ext (Array.toList_inj.mp e))
  simp [h,this]
theorem bytesEqT (a a':Option Addr) (n c n' c':Nat) (xs ys:List Int) (w:World) (h:RdB w a n xs) (h':RdB w a' n' ys) :
  Calls Tryz.prog 131 #[.slice a n c,.slice a' n' c'] w fun e u=>e = .returned (.bool (decide (xs=ys)))∧w.grownBy u none:=by
 have h1:(convert 23 9 (.slice a n c)).run Tryz.prog w = .ok (.string (strOfNums xs)) w:=conv_run h.1;have h2:(convert 23 9 (.slice a' n' c')).run Tryz.prog w = .ok (.string (strOfNums ys)) w:=conv_run h'.1;have E:Hid (decide (strOfNums xs=strOfNums ys)=decide (xs=ys)):=str_eq h.2.1 h'.2.1;clear h h';generalize strOfNums xs=s at *;generalize strOfNums ys=t at *;go_enter Tryz.func131,Tryz.ntmps131;go_wp2;go_ret;refine ⟨?_,grf _ _⟩;rw[← E.out];rw[← toL_beq];rfl
theorem l5isT (a:Option Addr) (n c:Nat) (xs:List Int) (t:ByteArray) (w:World) (h:RdB w a n xs) :
  Calls Tryz.prog 122 #[.slice a n c,.string t] w fun e u=>e = .returned (.bool (decide (strOfNums xs=t)))∧w.grownBy u none:=by
 have h1:(convert 23 9 (.slice a n c)).run Tryz.prog w = .ok (.string (strOfNums xs)) w:=conv_run h.1;clear h;generalize strOfNums xs=s at *;go_enter Tryz.func122,Tryz.ntmps122;go_wp2;go_ret;refine ⟨?_,grf _ _⟩;rw[← toL_beq];rfl
def keyA:Array Value:=#[.string { data:=#[102,110] },.string { data:=#[108,101,116] },.string { data:=#[114,101,99] },.string { data:=#[105,102] },.string { data:=#[112,97,105,114] },.string { data:=#[102,115,116] },.string { data:=#[115,110,100] },.string { data:=#[114,101,102] },.string { data:=#[114,101,97,100] },.string { data:=#[119,114,105,116,101] },.string { data:=#[109,97,116,99,104] },.string { data:=#[114,97,105,115,101] },.string { data:=#[116,114,121] },.string { data:=#[97,100,100] },.string { data:=#[115,117,98] },.string { data:=#[109,117,108] },.string { data:=#[108,101,115,115] },.string { data:=#[115,97,109,101] },.string { data:=#[99,97,116] },.string { data:=#[108,101,110] },.string { data:=#[112,114,105,110,116] },.string { data:=#[116,105,99,107] },.string { data:=#[100,114,97,119] },.string { data:=#[103,101,116] },.string { data:=#[112,117,116] },.string { data:=#[100,97,116,97] },.string { data:=#[117,110,105,116] },.string { data:=#[105,110,116] },.string { data:=#[116,101,120,116] },.string { data:=#[102,117,110] }]
theorem keyA_all:keyA.toList=keysL.map fun k=>Value.string (strOfNums k):=by kernel_rfl
theorem l5keysT (w:World):Calls Tryz.prog 121 #[] w fun e u=>∃ g,e = .returned (.slice (some ⟨g,0,none⟩) 30 30)∧w.grownBy u none∧u.heap[g]? = some (.cells keyA 9 (0,0)):=by
 have b:=heap_alloc_new w (.cells keyA 9);have g:=gal w (.cells keyA 9) none;have L:Hid _:=And.intro g b;clear b g;go_enter Tryz.func121,Tryz.ntmps121;go_wp2;go_ret;exact ⟨w.heap.size,rfl,L.out.1,L.out.2⟩
theorem keys_at {u:World} {g:Nat} (h:u.heap[g]? = some (.cells keyA 9 (0,0))) {j:Nat} (hj:j < 30):∃ k,keysL[j]? = some k∧u.cell? ⟨g,j,none⟩=some (.string (strOfNums k)):=by
 have hl:j < keysL.length:=hj;refine ⟨keysL[j],List.getElem?_eq_getElem hl,?_⟩;rw[cell_of_row u g j _ _ (0,0) h,← Array.getElem?_toList,keyA_all,List.getElem?_map,List.getElem?_eq_getElem hl];rfl
theorem l5keyT (a:Option Addr) (n c:Nat) (zs:List Int) (w:World) (h:RdB w a n zs) :
  Calls Tryz.prog 84 #[.slice a n c] w fun e u=>e = .returned (.bool (keyV zs))∧w.grownBy u none:=by
 have C0:Hid _:=l5keysT w;have HZ:Hid (RdB w a n zs):=h;clear h;go_enter Tryz.func84,Tryz.ntmps84;go_wp2_with fail;refine Calls.mono C0.out ?_;rintro e u ⟨g,he,hg,hb⟩;subst he;have L0:Hid (w.grownBy u none∧u.heap[g]? = some (.cells keyA 9 (0,0))):=⟨hg,hb⟩;clear C0 hg hb;simp only[];go_wp2
 go_loopw [4] (fun i wr=>∃ (j:Nat),j≤30∧i = .int .i64 j∧Hid (u.grownBy wr none∧keyV zs=(keysL.drop j).any fun k=>decide (k=zs))) (fun i _=>30 - (intOf i).toNat)
 case atStart=>exact ⟨0,Nat.zero_le _,rfl,grf _ _,rfl⟩
 case round =>
  obtain ⟨j,hj,rfl,HR⟩:=hrel;by_cases hlt:j < 30
  ·
   obtain ⟨k,hk,hc⟩:=keys_at ((HR.out.1.block _ (lt_of_block L0.out.2) (by simp)).trans L0.out.2) hlt;have hjl:j < keysL.length:=hlt
   have hd:keysL.drop j=k::keysL.drop (j+1):=by
    rw[List.drop_eq_getElem_cons hjl];rw[List.getElem?_eq_getElem hjl] at hk;injection hk with hk;rw[hk]
   have hkb:Byt k:=keys_byt k (List.mem_of_getElem? hk);have C1:Hid _:=l5isT a n c zs (strOfNums k) wr (HZ.out.none (gtr L0.out.1 HR.out.1));rw[str_eq HZ.out.2.1 hkb] at C1;have HV:Hid (u.grownBy wr none∧keyV zs=(decide (k=zs) || (keysL.drop (j+1)).any fun k=>decide (k=zs))):=⟨HR.out.1,by rw[HR.out.2,hd];rfl⟩
   have hlt':(j:Int) < 30:=by omega
   generalize strOfNums k=s at *;clear hk hd HR hkb;go_wp2_with fail;refine Calls.mono C1.out ?_;rintro e v ⟨he,hg⟩;subst he;have HG:Hid (u.grownBy v none):=gtr HV.out.1 hg;clear C1 hg hc;simp only[];by_cases hz:zs=k
   ·
    have E:Hid (keyV zs=true):=by show _=_;rw[HV.out.2];simp [hz]
    have hd2:decide (zs=k)=true:=by simp [hz]
    rw[hd2];clear hz hd2;go_wp2;go_ret;exact ⟨by rw[E.out];rfl,gtr L0.out.1 HG.out⟩
   ·
    have hd2:decide (zs=k)=false:=by simp [hz]
    have hz2:¬ k=zs:=fun e=>hz e.symm
    have E:Hid (keyV zs=(keysL.drop (j+1)).any fun k=>decide (k=zs)):=by show _=_;rw[HV.out.2];simp [hz2]
    rw[hd2];clear hz hd2 hz2;go_wp2;go_roundw
    case rel=>exact ⟨j+1,by omega,by go_num,HG.out,E.out⟩
    case measure=>simp [intOf];omega
  ·
   obtain rfl:j=30:=by omega
   have E:Hid (keyV zs=false∧u.grownBy wr none):=⟨by rw[HR.out.2];rfl,HR.out.1⟩;clear HR;go_wp2;go_ret;exact ⟨by rw[E.out.1];rfl,gtr L0.out.1 E.out.2⟩
def kwS:ByteArray:={ data:=(([102,110,32,108,101,116,32,114,101,99,32,105,102,32,112,97,105,114,32,102,115,116,32,115,110,100,32,114,101,102,32,114,101].append [97,100,32,119,114,105,116,101,32,109,97,116,99,104,32,114,97,105,115,101,32,116,114,121,32,97,100,100,32,115,117,98,32,109]).append ([117,108,32,108,101,115,115,32,115,97,109,101,32,99,97,116,32,108,101,110,32,112,114,105,110,116,32,116,105,99,107,32,100,114].append [97,119,32,103,101,116,32,112,117,116,32,100,97,116,97,32,117,110,105,116,32,105,110,116,32,116,101,120,116,32,102,117,110,32])).toArray }
theorem kwS_eq:strOfNums kwL=kwS:=by kernel_rfl
theorem kwL_len:kwL.length=135:=by kernel_rfl
theorem isKeyT (a:Option Addr) (n c:Nat) (zs:List Int) (w:World) (h:RdB w a n zs) :
  Calls Tryz.prog 128 #[.slice a n c] w fun e u=>e = .returned (.bool (keyV zs))∧w.grownBy u none:=by
 have HZ:Hid (RdB w a n zs):=h;clear h;obtain ⟨S,hS⟩:∃ S:ByteArray,S = { data:=(([102,110,32,108,101,116,32,114,101,99,32,105,102,32,112,97,105,114,32,102,115,116,32,115,110,100,32,114,101,102,32,114,101].append [97,100,32,119,114,105,116,101,32,109,97,116,99,104,32,114,97,105,115,101,32,116,114,121,32,97,100,100,32,115,117,98,32,109]).append ([117,108,32,108,101,115,115,32,115,97,109,101,32,99,97,116,32,108,101,110,32,112,114,105,110,116,32,116,105,99,107,32,100,114].append [97,119,32,103,101,116,32,112,117,116,32,100,97,116,97,32,117,110,105,116,32,105,110,116,32,116,101,120,116,32,102,117,110,32])).toArray }:=⟨_,rfl⟩
 have HS:Hid (strOfNums kwL=S):=by show _=_;rw[hS];exact kwS_eq
 have hsz:S.size=135:=by rw[← HS.out,str_size,kwL_len]
 go_enter Tryz.func128,Tryz.ntmps128;rw[← hS];clear hS;go_wp2
 go_loopw [3] (fun b w'=>∃ (j bg:Nat) (v:World),w' = v.iter S j∧v.heap.size=w.heap.size∧Hid (w.grownBy v none)∧b = .int .i64 bg∧bg≤j∧j≤135∧Hid (keyV zs=scanK zs (kwL.drop j) ((kwL.drop bg).take (j - bg)))) (fun _ w'=>S.size - w'.iterPos w.heap.size)
 case atStart=>exact ⟨0,0,w,rfl,rfl,grf _ _,rfl,Nat.le_refl _,Nat.zero_le _,by show _=_;rw[← scan_key];rfl⟩
 case round =>
  obtain ⟨j,bg,v,rfl,hv,HGV,rfl,hbj,hj,HR⟩:=hrel;by_cases hp:j < S.size
  ·
   have hjl:j < kwL.length:=by rw[kwL_len];omega
   obtain ⟨z,hz⟩:∃ z,kwL[j]'hjl=z:=⟨_,rfl⟩;have hza:=kw_ascii z (by rw[← hz];exact List.getElem_mem hjl)
   have hd:kwL.drop j=z::kwL.drop (j+1):=by rw[List.drop_eq_getElem_cons hjl,hz]
   have hz1:(((S[j]'hp).toNat:Nat):Int)=z:=by
    have:=HS.out;subst this;rw[str_at kw_byt hp,List.getD_eq_getElem?_getD,List.getElem?_eq_getElem hjl,hz];rfl
   have hnx:∀ ty,(Instr.next (.pointer (some ⟨w.heap.size,0,none⟩)) true ty).run Tryz.prog (v.iter S j) = .ok (.tuple #[.bool true,.int .i64 j,.int .i32 z]) (v.iter S (j+1)):=fun ty=>by
    rw[← hv,run_next_ascii v S j ty hp (by omega),hz1]
   have GI:Hid (∀ q,w.grownBy (v.iter S q) none):=fun q=>gtr HGV.out (gal _ _ _)
   have hjn:j < 135:=by omega
   have HV:Hid (keyV zs=if z=32 then (decide ((kwL.drop bg).take (j - bg)=zs) || scanK zs (kwL.drop (j+1)) []) else scanK zs (kwL.drop (j+1)) ((kwL.drop bg).take (j - bg)++[z])):=by
    show _=_
    rw[HR.out,hd];rfl
   have HT:Hid ((kwL.drop bg).take (j+1 - bg)=(kwL.drop bg).take (j - bg)++[z]):=by
    show _=_
    rw[show j+1 - bg=(j - bg)+1 by omega,List.take_add_one,List.getElem?_drop,show bg+(j - bg)=j by omega,List.getElem?_eq_getElem hjl,hz];rfl
   clear HR hd hz hz1 hza hjl hp;by_cases h32:z=32
   ·
    subst h32;have E0:=HV.out;rw[if_pos rfl] at E0
    have hcmp:((S.extract bg j).toList == (strOfNums zs).toList)=decide ((kwL.drop bg).take (j - bg)=zs):=by
     rw[toL_beq,← HS.out,str_extract,str_eq (byt_part kw_byt _ _) HZ.out.2.1]
    have HE:Hid (keyV zs=(decide ((kwL.drop bg).take (j - bg)=zs) || scanK zs (kwL.drop (j+1)) [])):=E0;clear E0 HV HT;go_wp2_with fail;have gd:=grown_drew (GI.out (j+1));have hcv:(convert 23 9 (.slice a n c)).run Tryz.prog (v.iter S (j+1)).drew = .ok (.string (strOfNums zs)) (v.iter S (j+1)).drew:=conv_run (HZ.out.none gd).1;have GD:Hid (w.grownBy (v.iter S (j+1)).drew none∧(v.iter S (j+1)).drew=v.drew.iter S (j+1)∧w.grownBy v.drew none):=⟨gd,rfl,grown_drew HGV.out⟩
    have hsl:∀ x,(Instr.slice 9 (.string S) (some (.int .i64 (bg:Int))) (some (.int .i64 (j:Int))) none).run Tryz.prog x = .ok (.string (S.extract bg j)) x:=fun x=>by
     have:=run_slice_string (P:=Tryz.prog) x 9 S .i64 .i64 (bg:Int) (j:Int) Tryz.underlying9 (by omega) (by omega) (by rw[hsz];omega);simpa using this
    clear gd;refine wp_region_held_drew (S:=(fun _=>True)) (by kernel_rfl) trivial (fun hH=>?_);generalize (v.iter S (j+1)).drew=x0 at *;simp only[List.size_toArray,lB,lC,Nat.reduceAdd,Array.replicate,List.replicate];refine tk 0 ?_;refine tk 1 ?_;refine tk 2 ?_;refine tk 3 ?_;refine rd 4 rfl (fun K hK=>?_);go_simp;refine hK.out _ _ trivial ?_;clear hK K hH;intro hH;simp only[Act.put,nA,nB,nC,nD,nE,nF];refine tk 5 ?_;refine wpAnyH_done (by kernel_rfl) ?_ _;clear hH;by_cases hcur:(kwL.drop bg).take (j - bg)=zs
    ·
     have E2:Hid (keyV zs=true):=by show _=_;rw[HE.out];simp [hcur]
     have hc2:decide ((kwL.drop bg).take (j - bg)=zs)=true:=by simp [hcur]
     rw[hc2];clear hcmp hc2 hcv hsl hcur;go_wp2;go_ret;exact ⟨by rw[E2.out];rfl,GD.out.1⟩
    ·
     have E2:Hid (keyV zs=scanK zs (kwL.drop (j+1)) []):=by show _=_;rw[HE.out];simp [hcur]
     have hc2:decide ((kwL.drop bg).take (j - bg)=zs)=false:=by simp [hcur]
     rw[hc2];clear hcmp hc2 hcv hsl hcur;go_wp2;go_roundw
     case rel=>exact ⟨j+1,j+1,v.drew,GD.out.2.1,hv,GD.out.2.2,by go_num,by omega,by omega,by show _=_;rw[E2.out,Nat.sub_self,List.take_zero]⟩
     case measure =>
      rw[GD.out.2.1,← hv];have e1:(v.drew.iter S (j+1)).iterPos v.heap.size=j+1:=World.iterPos_iter v.drew S (j+1);have e2:(v.iter S j).iterPos v.heap.size=j:=World.iterPos_iter v S j;rw[e1,e2];omega
   ·
    have HE:Hid (keyV zs=scanK zs (kwL.drop (j+1)) ((kwL.drop bg).take (j+1 - bg))):=by
     show _=_
     rw[HT.out];have:=HV.out;rw[if_neg h32] at this;exact this
    clear HV HT;go_wp2;go_roundw
    case rel=>exact ⟨j+1,bg,v,rfl,hv,HGV,rfl,by omega,by omega,HE.out⟩
    case measure=>rw[← hv];simp;omega
  ·
   have hnx:∀ ty,(Instr.next (.pointer (some ⟨w.heap.size,0,none⟩)) true ty).run Tryz.prog (v.iter S j) = .ok (.tuple #[.bool false]) (v.iter S j):=fun ty=>by rw[← hv];exact run_next_end v S j ty hp
   obtain rfl:j=135:=by omega
   have HV:Hid (keyV zs=false∧w.grownBy (v.iter S 135) none):=⟨by rw[HR.out,List.drop_eq_nil_of_le (by rw[kwL_len];exact Nat.le_refl _)];rfl,gtr HGV.out (gal _ _ _)⟩;clear HR;go_wp2;go_ret;exact ⟨by rw[HV.out.1];rfl,HV.out.2⟩
def nameV (zs:List Int):Bool:=wordV 97 122 zs && !keyV zs
theorem isNameT (a:Option Addr) (n c:Nat) (zs:List Int) (w:World) (h:RdB w a n zs) :
  Calls Tryz.prog 95 #[.slice a n c] w fun e u=>e = .returned (.bool (nameV zs))∧w.grownBy u none:=by
 have C0:Hid _:=isSmallT a n c zs w h;have HZ:Hid (RdB w a n zs):=h;clear h;go_enter Tryz.func95,Tryz.ntmps95;go_wp2_with fail;refine Calls.mono C0.out ?_;rintro e u ⟨he,hg⟩;subst he;have G1:Hid (w.grownBy u none):=hg;clear C0 hg;simp only[]
 cases hw:wordV 97 122 zs with
 | false =>
  have E:Hid (nameV zs=false):=by show _=_;unfold nameV;rw[hw];rfl
  clear hw;go_wp2;go_ret;exact ⟨by rw[E.out];rfl,G1.out⟩
 | true =>
  have C1:Hid _:=isKeyT a n c zs u (HZ.out.none G1.out)
  have E:Hid (nameV zs = !keyV zs):=by show _=_;unfold nameV;rw[hw];rfl
  clear hw;go_wp2_with fail;refine Calls.mono C1.out ?_;rintro e v ⟨he,hg⟩;subst he;have G2:Hid (w.grownBy v none):=gtr G1.out hg;clear C1 hg;simp only[];go_wp2;go_ret;exact ⟨by rw[E.out];rfl,G2.out⟩
theorem ibs (s:ByteArray) (c:Int) (w:World):(callFunc 186 #[.string s,.int .u8 c]).run Tryz.prog w = .ok (.value (.int .i64 (Lib.indexByte s.data.toList c.toNat.toUInt8))) w:=by
 rw[run_callFunc_extern (P:=Tryz.prog) (e:=Extern.BytealgIndexByte.indexByte) Tryz.func186 (by kernel_rfl) (by kernel_rfl) (by kernel_rfl) (by kernel_rfl),Lib.run_indexByteString];rfl
theorem cts (s:ByteArray) (c:Int) (w:World):(callFunc 165 #[.string s,.int .u8 c]).run Tryz.prog w = .ok (.value (.int .i64 (Lib.countByte s.data.toList c.toNat.toUInt8))) w:=by
 rw[run_callFunc_extern (P:=Tryz.prog) (e:=Extern.BytealgCount.count) Tryz.func165 (by kernel_rfl) (by kernel_rfl) (by kernel_rfl) (by kernel_rfl),Lib.run_countString];rfl
theorem indexByteT (s:ByteArray) (c:Int) (w:World) :
  Calls Tryz.prog 180 #[.string s,.int .u8 c] w fun e u=>e = .returned (.int .i64 (Lib.indexByte s.data.toList c.toNat.toUInt8))∧u=w:=by
 have hx:=ibs s c;go_enter Tryz.func180,Tryz.ntmps180;go_wp2;go_ret;exact ⟨rfl,rfl⟩
def hasB (s:ByteArray) (c:Int):Bool:=decide (0≤Lib.indexByte s.data.toList c.toNat.toUInt8)
theorem indexT (s:ByteArray) (x:UInt8) (w:World) :
  Calls Tryz.prog 172 #[.string s,.string ⟨#[x]⟩] w fun e u=>∃ r,e = .returned (.int .i64 r)∧decide (0≤r)=hasB s (x.toNat:Int)∧u=w:=by
 have CC:Hid _:=indexByteT s (x.toNat:Int) w;have h1:(⟨#[x]⟩:ByteArray).size=1:=rfl;have hc:(((⟨#[x]⟩:ByteArray)[0]'(by rw[h1];omega)).toNat:Int)=(x.toNat:Int):=rfl
 have hE:Hid ((⟨#[x]⟩:ByteArray)=s→hasB s (x.toNat:Int)=true):=by
  intro e;subst e
  have hx:(x.toNat:Int).toNat.toUInt8=x:=by simp
  simp [hasB,Lib.indexByte]
 generalize (⟨#[x]⟩:ByteArray)=sub at *;generalize (x.toNat:Int)=c at *;by_cases hss:sub=s
 ·
  have hE2:=hE.out hss;clear hE;subst hss;clear CC;go_enter Tryz.func172,Tryz.ntmps172;go_wp2;go_ret;exact ⟨0,rfl,by rw[hE2];rfl,rfl⟩
 ·
  have hss':(sub.toList == s.toList)=false:=by rw[toL_beq];simpa using hss
  have hss2:decide (sub=s)=false:=by simpa using hss
  clear hE;go_enter Tryz.func172,Tryz.ntmps172;go_wp2_with fail;refine Calls.mono CC.out ?_;rintro e u ⟨he,hu⟩;subst he hu;clear CC;simp only[];go_wp2;go_ret;exact ⟨_,rfl,rfl,rfl⟩
theorem sIndexT (s:ByteArray) (x:UInt8) (w:World) :
  Calls Tryz.prog 161 #[.string s,.string ⟨#[x]⟩] w fun e u=>∃ r,e = .returned (.int .i64 r)∧decide (0≤r)=hasB s (x.toNat:Int)∧u=w:=by
 have CC:Hid _:=indexT s x w;go_enter Tryz.func161,Tryz.ntmps161;go_wp2_with fail;refine Calls.mono CC.out ?_;rintro e u ⟨r,he,hr,hu⟩;subst he hu;clear CC;simp only[];go_wp2;go_ret;exact ⟨r,rfl,hr,rfl⟩
theorem sContainsT (s:ByteArray) (x:UInt8) (w:World) :
  Calls Tryz.prog 151 #[.string s,.string ⟨#[x]⟩] w fun e u=>e = .returned (.bool (hasB s (x.toNat:Int)))∧u=w:=by
 have CC:Hid _:=sIndexT s x w;go_enter Tryz.func151,Tryz.ntmps151;go_wp2_with fail;refine Calls.mono CC.out ?_;rintro e u ⟨r,he,hr,hu⟩;subst he hu;clear CC;have hr':decide (r ≥ 0)=hasB s (x.toNat:Int):=hr;simp only[];go_wp2;go_ret;exact ⟨by rw[← hr];rfl,rfl⟩
theorem hasT (wd:ByteArray) (k n:Int) (s:ByteArray) (x:UInt8) (w:World) :
  Calls Tryz.prog 132 #[.agg #[.string wd,.int .i64 k,.int .i64 n,.string s],.string ⟨#[x]⟩] w fun e u=>e = .returned (.bool (hasB s (x.toNat:Int)))∧w.grownBy u none:=by
 have g0:=gal w (.cells #[.string wd,.int .i64 k,.int .i64 n,.string s] 129) none;have b0:=heap_alloc_new w (.cells #[.string wd,.int .i64 k,.int .i64 n,.string s] 129);have CC:Hid _:=sContainsT s x (w.alloc (.cells #[.string wd,.int .i64 k,.int .i64 n,.string s] 129))
 have y3:(w.alloc (.cells #[.string wd,.int .i64 k,.int .i64 n,.string s] 129)).cell? ⟨w.heap.size,3,none⟩=some (.string s):=by rw[cell_of_row _ _ _ _ _ (0,0) b0];rfl
 have G0:Hid _:=g0;clear g0 b0;go_enter Tryz.func132,Tryz.ntmps132;go_wp2_with fail;refine Calls.mono CC.out ?_;rintro e u ⟨he,hu⟩;subst he hu;clear CC y3;simp only[];go_wp2;go_ret;exact ⟨rfl,G0.out⟩
theorem sCountT (s:ByteArray) (x:UInt8) (w:World) :
  Calls Tryz.prog 153 #[.string s,.string ⟨#[x]⟩] w fun e u=>e = .returned (.int .i64 (Lib.countByte s.data.toList x))∧u=w:=by
 have hx:=cts s (x.toNat:Int);have h1:(⟨#[x]⟩:ByteArray).size=1:=rfl;have hc:(((⟨#[x]⟩:ByteArray)[0]'(by rw[h1];omega)).toNat:Int)=(x.toNat:Int):=rfl
 have hE:(x.toNat:Int).toNat.toUInt8=x:=by simp
 rw[hE] at hx;generalize (⟨#[x]⟩:ByteArray)=sub at *;generalize (x.toNat:Int)=c at *;go_enter Tryz.func153,Tryz.ntmps153;go_wp2;go_ret;exact ⟨rfl,rfl⟩
def amV (z:List Int) (xs:List (List Int)):Bool:=xs.any fun x=>decide (x=z)
theorem amongT (xs:List (List Int)) (a:Option Addr) (l c:Nat) (z:List Int) (a':Option Addr) (n' c':Nat) (w:World) (h:SlSS w a l xs) (hz:RdB w a' n' z) :
  Calls Tryz.prog 100 #[.slice a l c,.slice a' n' c'] w fun e u=>e = .returned (.bool (amV z xs))∧w.grownBy u none:=by
 have hl:=h.2.1;have hfl:=h.1;rcases h.cases with ⟨rfl,rfl⟩|⟨b,o,rfl,hin,hpos⟩
 ·
  go_enter Tryz.func100,Tryz.ntmps100;go_wp2;refine wp_loop_rounds 1 ?_;rw[rounds_succ];go_wp2;go_ret;exact ⟨rfl,grf _ _⟩
 have IN:Hid (InSS w w xs b o∧RdB w a' n' z):=⟨hin,hz⟩;clear hin h hz;go_enter Tryz.func100,Tryz.ntmps100;go_wp2
 go_loopw [9] (fun i wr=>∃ (j:Nat) (R:List (List Int)),j≤l∧i = .int .i64 j∧R.length+j=l∧Hid (w.grownBy wr none∧InSS wr wr R b (o+j)∧amV z xs=amV z R)) (fun i _=>l - (intOf i).toNat)
 case atStart=>exact ⟨0,xs,Nat.zero_le _,rfl,by omega,grf _ _,by simpa using IN.out.1,rfl⟩
 case round =>
  obtain ⟨j,R,hj,rfl,hRl,HR⟩:=hrel;by_cases hlt:j < l
  ·
   obtain ⟨x,R',rfl⟩:∃ x R',R=x::R':=by
    cases R with
    | nil=>simp at hRl;omega
    | cons x R'=>exact ⟨x,R',rfl⟩
   obtain ⟨hg,⟨⟨a1,n1,c1,k0,hd⟩,hR2⟩,hv⟩:=HR.out;rw[show o+j+1=o+(j+1) by omega] at hR2;have CC:Hid _:=bytesEqT a1 a' n1 c1 n' c' x z wr hd (IN.out.2.none hg);have FX:Hid (w.grownBy wr none∧InSS wr wr R' b (o+(j+1))∧amV z xs=(decide (x=z) || amV z R')):=⟨hg,hR2,by rw[hv];rfl⟩;clear hd hR2 hg hv HR;simp only[lB] at hRl;go_wp2_with fail;refine Calls.mono CC.out ?_;rintro e u ⟨he,hgu⟩;subst he;have FY:Hid (w.grownBy u none∧InSS u u R' b (o+(j+1))):=⟨gtr FX.out.1 hgu,FX.out.2.1.le (CLe.grown hgu) (CLe.grown hgu)⟩;clear CC hgu k0;simp only[];by_cases hxz:x=z
   ·
    have E:Hid (amV z xs=true):=by show _=_;rw[FX.out.2.2];simp [hxz]
    have hd2:decide (x=z)=true:=by simp [hxz]
    rw[hd2];clear hxz hd2 FX;go_wp2;go_ret;exact ⟨by rw[E.out];rfl,FY.out.1⟩
   ·
    have E:Hid (amV z xs=amV z R'):=by show _=_;rw[FX.out.2.2];simp [hxz]
    have hd2:decide (x=z)=false:=by simp [hxz]
    rw[hd2];clear hxz hd2 FX;go_wp2;go_roundw
    case rel=>exact ⟨j+1,R',by omega,by go_num,by omega,FY.out.1,FY.out.2,E.out⟩
    case measure=>simp [intOf];omega
  ·
   obtain rfl:j=l:=by omega
   obtain rfl:R=[]:=List.eq_nil_of_length_eq_zero (by omega);have E:Hid (amV z xs=false∧w.grownBy wr none):=⟨HR.out.2.2,HR.out.1⟩;clear HR;go_wp2;go_ret;exact ⟨by rw[E.out.1];rfl,E.out.2⟩
def unV:List (List Int)→List (List Int)→Bool
 | _,[]=>true
 | P,x::r=>!amV x P && unV (P++[x]) r
theorem allUnT (xs:List (List Int)) (a:Option Addr) (l c:Nat) (w:World) (h:SlSS w a l xs) (hlc:l≤c) :
  Calls Tryz.prog 65 #[.slice a l c] w fun e u=>e = .returned (.bool (unV [] xs))∧w.grownBy u none:=by
 have hl:=h.2.1;have hfl:=h.1;rcases h.cases with ⟨rfl,rfl⟩|⟨b,o,rfl,hin,hpos⟩
 ·
  go_enter Tryz.func65,Tryz.ntmps65;go_wp2;refine wp_loop_rounds 1 ?_;rw[rounds_succ];go_wp2;go_ret;exact ⟨rfl,grf _ _⟩
 have IN:Hid (InSS w w xs b o):=hin;clear hin h;go_enter Tryz.func65,Tryz.ntmps65;go_wp2
 go_loopw [7] (fun i wr=>∃ (j:Nat) (P R:List (List Int)),j≤l∧i = .int .i64 j∧P.length=j∧R.length+j=l∧Hid (w.grownBy wr none∧InSS wr wr (P++R) b o∧unV [] xs=unV P R)) (fun i _=>l - (intOf i).toNat)
 case atStart=>exact ⟨0,[],xs,Nat.zero_le _,rfl,rfl,by omega,grf _ _,by simpa using IN.out,rfl⟩
 case round =>
  obtain ⟨j,P,R,hj,rfl,hPl,hRl,HR⟩:=hrel;by_cases hlt:j < l
  ·
   obtain ⟨x,R',rfl⟩:∃ x R',R=x::R':=by
    cases R with
    | nil=>simp at hRl;omega
    | cons x R'=>exact ⟨x,R',rfl⟩
   obtain ⟨hg,hin,hv⟩:=HR.out;obtain ⟨⟨a1,n1,c1,k0,hd⟩,-⟩:=hin.snd;rw[hPl] at k0;have CC:Hid _:=amongT P (some ⟨b,o,none⟩) j c x a1 n1 c1 wr ⟨hPl,by omega,.inr ⟨b,o,rfl,hin.fst⟩⟩ hd;have FX:Hid (w.grownBy wr none∧InSS wr wr ((P++[x])++R') b o∧unV [] xs=(!amV x P && unV (P++[x]) R')):=⟨hg,by rw[List.append_assoc];exact hin,by rw[hv];rfl⟩;clear hd hin hg hv HR;simp only[lB] at hRl;go_wp2_with fail;refine Calls.mono CC.out ?_;rintro e u ⟨he,hgu⟩;subst he;have FY:Hid (w.grownBy u none∧InSS u u ((P++[x])++R') b o):=⟨gtr FX.out.1 hgu,FX.out.2.1.le (CLe.grown hgu) (CLe.grown hgu)⟩;clear CC hgu k0;simp only[]
   cases hq:amV x P with
   | true =>
    have E:Hid (unV [] xs=false):=by show _=_;rw[FX.out.2.2,hq];rfl
    clear hq FX;go_wp2;go_ret;exact ⟨by rw[E.out];rfl,FY.out.1⟩
   | false =>
    have E:Hid (unV [] xs=unV (P++[x]) R'):=by show _=_;rw[FX.out.2.2,hq];rfl
    clear hq FX;go_wp2;go_roundw
    case rel=>exact ⟨j+1,P++[x],R',by omega,by go_num,by simp [hPl],by omega,FY.out.1,FY.out.2,E.out⟩
    case measure=>simp [intOf];omega
  ·
   obtain rfl:j=l:=by omega
   obtain rfl:R=[]:=List.eq_nil_of_length_eq_zero (by omega);have E:Hid (unV [] xs=true∧w.grownBy wr none):=⟨HR.out.2.2,HR.out.1⟩;clear HR;go_wp2;go_ret;exact ⟨by rw[E.out.1];rfl,E.out.2⟩
end Go.Proofs.YtblbnillilbacaaGreatDoor.By
