/-
  No statement is proved here.
-/
import Derived.Test.YtnmlbeefjjohfaaGreatDoorCRkAlsoSh
namespace Go.Proofs.YtnmlbeefjjohfaaGreatDoor.By
set_option maxRecDepth 100000
set_option maxHeartbeats 16000000
open Go.RowKit
set_option linter.unusedVariables false
set_option linter.unusedSimpArgs false
theorem nmS_le {zs:List Int} {N:Nat} (hz:Byt zs) (hl:zs.length=N) (m:Int) {p:Int} (h:p≤N):((parS zs).nm m p).2≤N:=by
 simp only[parS]
 split
 ·
  exact h
 ·
  split
  ·
   show (-1:Int)≤N;omega
  ·
   rcases getNum_bounds zs hz p with h|h
   ·
    rw[h];show (-1:Int)≤N;omega
   ·
    rw[← hl];exact h.2.2
theorem tyS_le {zs:List Int} {N:Nat} (hz:Byt zs) (hl:zs.length=N) {p:Int} (h:p≤N):(tyP (parS zs) p).2≤N:=by
 unfold tyP;simp only[parS]
 split
 ·
  exact h
 ·
  exact tyP_le hz hl h
theorem listN_le {N:Nat} {X:Type} {f:Int→X × Int} (hf:∀ p:Int,p≤N→(f p).2≤N):∀ (n:Nat) (p:Int),p≤N→(listN f n p).2≤N
 | 0,p,h=>h
 | n+1,p,h=>by
  rw[listN]
  split
  ·
   exact h
  ·
   exact listN_le hf n _ (hf p h)
theorem listS_le {zs:List Int} {N:Nat} (hz:Byt zs) (hl:zs.length=N) {X:Type} {f:Int→X × Int} (hf:∀ p:Int,p≤N→(f p).2≤N) (m:Int) {p:Int} (h:p≤N):(listP (parS zs) f m p).2≤N:=listN_le hf _ _ (nmS_le hz hl m h)
theorem typesS_le {zs:List Int} {N:Nat} (hz:Byt zs) (hl:zs.length=N) (m:Int) {p:Int} (h:p≤N):(typesP (parS zs) m p).2≤N:=listS_le hz hl (fun p h=>tyS_le hz hl h) m h
theorem nmS_nn {zs:List Int} {N:Nat} (hz:Byt zs) (hl:zs.length=N) (m:Int) (hm:0≤m) (p:Int):0≤((parS zs).nm m p).1∧((parS zs).nm m p).1≤m:=by
 simp only[parS]
 split
 ·
  exact ⟨Int.le_refl _,hm⟩
 ·
  split
  ·
   exact ⟨Int.le_refl _,hm⟩
  ·
   rename_i hc
   rcases getNum_bounds zs hz p with h|h
   ·
    rw[h];exact ⟨Int.le_refl _,hm⟩
   ·
    exact ⟨h.1,by omega⟩
theorem l8typesT (q g N:Nat) (zs:List Int) (m p:Int) (w:World) (hB:Byq w q g N zs) (b:SCd w q g N p) (hm0:0≤m) (hm1:m≤1000) (hp:p≤N) :
  Calls Tryz.prog 13 #[.pointer (some ⟨q,0,none⟩),.int .i64 m] w fun e u=>∃ a c,e = .returned (.slice a (typesP (parS zs) m p).1.len c)∧OwnS w u q g N (typesP (parS zs) m p).2 [.slice a (typesP (parS zs) m p).1.len c] (.sl 3 (encF (typesP (parS zs) m p).1) .nil):=by
 have HB:Hid (Byq w q g N zs):=hB;have PQ:Hid (q < w.heap.size):=lbk b;have NB:Hid (N≤30000):=hB.2.2.2.1;have CN:Hid _:=l8numT q g N zs m p w hB b (by have:=hB.2.2.2.1;omega);have hbb:=nmS_nn hB.2.2.1 hB.2.1 m hm0 p;have hp1':=nmS_le hB.2.2.1 hB.2.1 m hp
 have TL:Hid (∀ pp:Int,pp≤N→(tyP (parS zs) pp).2≤N):=fun pp h=>tyS_le hB.2.2.1 hB.2.1 h
 clear hB b;obtain ⟨n,p1,hn⟩:∃ n p1,(parS zs).nm m p=(n,p1):=⟨_,_,rfl⟩
 have HL:Hid (listP (parS zs) (tyP (parS zs)) m p=listN (tyP (parS zs)) n.toNat p1):=by show _=_;unfold listP;rw[hn]
 rw[hn] at hbb CN hp1';simp only[] at hbb CN hp1';obtain ⟨hn0,hn1⟩:=hbb;clear hn;go_enter Tryz.func13,Tryz.ntmps13;go_wp2_with fail;refine Calls.mono CN.out ?_;rintro e u0 ⟨rfl,hg,hc⟩;have L0:Hid (w.grownBy u0 (some q)∧SCd u0 q g N p1):=⟨hg,hc⟩;clear CN hg hc;simp only[];go_wp2
 go_loopw [6,7] (fun s6 s7 wr=>∃ (j:Nat) (P:List (Int × Int × F)) (pp:Int) (a:Option Addr) (c:Nat) (bs:List Nat),s6 = .slice a j c∧s7 = .int .i64 j∧Hid (w.grownBy wr (some q)∧SCd wr q g N pp∧SlG wr 3 a j c (encF (toF P)) bs∧bs.Nodup∧(∀ y ∈ bs,w.heap.size≤y)∧(j=0→c=0∧a=none))∧P.length=j∧(j:Int)≤n∧Hid (listN (tyP (parS zs)) n.toNat p1=(P++(listN (tyP (parS zs)) (n.toNat - j) pp).1,(listN (tyP (parS zs)) (n.toNat - j) pp).2))∧pp≤N) (fun _ i _=>n.toNat - (intOf i).toNat)
 case atStart=>exact ⟨0,[],p1,none,0,[],rfl,rfl,⟨L0.out.1,L0.out.2,SlG.nil _ _ _ _,List.nodup_nil,fun y hy=>by simp at hy,fun _=>⟨rfl,rfl⟩⟩,rfl,by simpa using hn0,by show _=_;simp,hp1'⟩
 case round =>
  obtain ⟨j,P,pp,a,c,bs,rfl,rfl,HR,hPl,hjn,HE,hpN⟩:=hrel;clear L0;obtain ⟨⟨z0,z1⟩,h0,h3⟩:=two HR.out.2.1;by_cases hlt:(j:Int) < n
  ·
   by_cases hpp:0≤pp
   ·
    have hj3:j≤30000:=by omega
    have CO:Hid _:=l8typeT q g N zs pp wr (HB.out.to HR.out.1) HR.out.2.1 (by have:=NB.out;omega);have HA:Hid _:=TL.out pp hpN;go_wp2_with fail;refine Calls.mono CO.out ?_;rintro e u ⟨a1,l1,c1,rfl,hg1,hc1,bd,hv,hnd,hlo⟩;obtain ⟨k1,n1,f1,p2,hT⟩:∃ k n f p2,tyP (parS zs) pp=((k,n,f),p2):=⟨_,_,_,_,rfl⟩;have HT:Hid (tyP (parS zs) pp=((k1,n1,f1),p2)):=hT;rw[hT] at hc1 hv;rw[hT];clear hT;simp only[] at hc1 hv ⊢;have hw0:=HR.out.1.size;have ga:=gal u (.cells #[.int .i64 k1,.int .i64 n1,.slice a1 l1 c1] 46) none
    have hbl:∀ y ∈ bs,y < wr.heap.size:=fun y hy=>HR.out.2.2.1.lt y hy
    have OX:Hid (OwnG (u.alloc (.cells #[.int .i64 k1,.int .i64 n1,.slice a1 l1 c1] 46)) (.num .i64 k1 (.num .i64 n1 (.sl 3 (encF f1) .nil))) u.heap.size 0 bd):=(hv.kept ga (fun _ _=>by simp)).own (cells_new (hnw u _));have AC:Hid (SlG (u.alloc (.cells #[.int .i64 k1,.int .i64 n1,.slice a1 l1 c1] 46)) 3 a j c (encF (toF P)) bs∧bs.Nodup∧(∀ x ∈ bs,x ∉ bd)∧bd.Nodup∧(j=0→c=0∧a=none)):=⟨(HR.out.2.2.1.kept hg1 (fun y hy=>by have:=HR.out.2.2.2.2.1 y hy;have:=PQ.out;simp;omega)).old ga,HR.out.2.2.2.1,fun x hx hy=>by have:=hbl x hx;have:=hlo x hy;omega,hnd,HR.out.2.2.2.2.2⟩;have FR:Hid (w.grownBy (u.alloc (.cells #[.int .i64 k1,.int .i64 n1,.slice a1 l1 c1] 46)) (some q)∧SCd (u.alloc (.cells #[.int .i64 k1,.int .i64 n1,.slice a1 l1 c1] 46)) q g N p2∧(∀ y ∈ bs,w.heap.size≤y)∧(∀ y ∈ bd,w.heap.size≤y)∧w.heap.size≤(u.alloc (.cells #[.int .i64 k1,.int .i64 n1,.slice a1 l1 c1] 46)).heap.size):=⟨gtr HR.out.1 (gtr hg1 (wide_none ga _)),SCd.old hc1 ga,HR.out.2.2.2.2.1,fun y hy=>by have:=hlo y hy;omega,by have:=hg1.size;have:=ga.size;omega⟩
    clear CO HR hg1 hc1 hv hnd hlo hw0 ga hbl z0 z1 h0 h3;obtain ⟨i0,hi,hz0,hz1,hz2⟩:=info_parts infoT;go_wp2_with (at_builtin;go_must (refine wpList_pushG rfl (.tmp 23) (.tmp 26) 43 rfl 46 i0 _ Tryz.underlying43 hi hz0 3 hz1 (by rw[hz2];decide) rfl a j c _ bs rfl AC.out.1 AC.out.2.1 AC.out.2.2.2.2 (by omega) u.heap.size 0 rfl _ bd OX.out rfl AC.out.2.2.2.1 AC.out.2.2.1 ?_);intro a3 c3 bs3 u3 h1 h2 h3 h4)
    have hlow:∀ y ∈ bs3,w.heap.size≤y:=fun y hy=>by
     rcases h3 y hy with h|h|h
     ·
      exact FR.out.2.2.1 y h
     ·
      exact FR.out.2.2.2.1 y h
     ·
      have:=FR.out.2.2.2.2;omega
    have gq:=Tn.freshR FR.out.1 h4 FR.out.2.2.1;have hcq:SCd u3 q g N p2:=(h4.block _ (lbk FR.out.2.1) (fun hx=>by have:=FR.out.2.2.1 _ hx;have:=PQ.out;omega)).trans FR.out.2.1
    have hEn:(encF (toF P)).app (.num .i64 k1 (.num .i64 n1 (.sl 3 (encF f1) .nil)))=encF (toF (P++[(k1,n1,f1)])):=by rw[toF_app,encF_app];rfl
    rw[hEn] at h1;have RN:Hid (w.grownBy u3 (some q)∧SCd u3 q g N p2∧SlG u3 3 a3 (j+1) c3 (encF (toF (P++[(k1,n1,f1)]))) bs3∧bs3.Nodup∧(∀ y ∈ bs3,w.heap.size≤y)∧(j+1=0→c3=0∧a3=none)):=⟨gq,hcq,h1,h2,hlow,fun h=>by omega⟩;clear AC OX FR h1 h2 h3 h4 hlow gq hcq hEn i0 hi hz0 hz1 hz2
    have HE2:Hid (listN (tyP (parS zs)) n.toNat p1=((P++[(k1,n1,f1)])++(listN (tyP (parS zs)) (n.toNat - (j+1)) p2).1,(listN (tyP (parS zs)) (n.toNat - (j+1)) p2).2)):=by
     show _=_
     rw[HE.out,show n.toNat - j=(n.toNat - (j+1))+1 by omega,listN_succ _ _ hpp,lD9,HT.out];rfl
    have hN2:p2≤N:=by have:=HA.out;rw[HT.out] at this;exact this
    go_roundw
    case rel=>exact ⟨j+1,P++[(k1,n1,f1)],p2,a3,c3,bs3,rfl,by go_num,RN,by simp [hPl],by omega,HE2,hN2⟩
    case measure=>simp [intOf];omega
   ·
    have HF:Hid (listP (parS zs) (tyP (parS zs)) m p=(P,pp)):=by show _=_;rw[HL.out,HE.out,listN_neg _ _ (by omega)];simp
    clear HE HL;go_wp2;go_ret
    have e1:typesP (parS zs) m p=(toF P,pp):=by unfold typesP;rw[HF.out]
    rw[e1]
    have e2:(toF P).len=j:=by rw[toF_len,hPl]
    rw[e2];exact ⟨a,c,rfl,HR.out.1,HR.out.2.1,bs,⟨bs,[],a,j,c,by simp,rfl,HR.out.2.2.1,rfl⟩,HR.out.2.2.2.1,HR.out.2.2.2.2.1⟩
  ·
   have HF:Hid (listP (parS zs) (tyP (parS zs)) m p=(P,pp)):=by show _=_;rw[HL.out,HE.out,show n.toNat - j=0 by omega];simp [listN]
   clear HE HL;go_wp2;go_ret
   have e1:typesP (parS zs) m p=(toF P,pp):=by unfold typesP;rw[HF.out]
   rw[e1]
   have e2:(toF P).len=j:=by rw[toF_len,hPl]
   rw[e2];exact ⟨a,c,rfl,HR.out.1,HR.out.2.1,bs,⟨bs,[],a,j,c,by simp,rfl,HR.out.2.2.1,rfl⟩,HR.out.2.2.2.1,HR.out.2.2.2.2.1⟩
theorem l5intOkT (n:Int) (w:World) :
    Calls Tryz.prog 77 #[.int .i64 n] w fun e u=>e = .returned (.bool (wholeV n))∧u=w:=by
  by_cases h1:-1073741824≤n
  · by_cases h2:n≤1073741823
    · go_enter Tryz.func77,Tryz.ntmps77
      go_wp2;go_ret;exact ⟨by simp [wholeV,h1,h2],rfl⟩
    · go_enter Tryz.func77,Tryz.ntmps77
      go_wp2;go_ret;exact ⟨by simp [wholeV,h1,h2],rfl⟩
  · go_enter Tryz.func77,Tryz.ntmps77
    go_wp2;go_ret
    exact ⟨by have e:wholeV n=false:=by (simp [wholeV];omega)
              rw[e];rfl,rfl⟩
theorem l5litT (a:Option Addr) (n c:Nat) (zs:List Int) (w:World) (h:RdB w a n zs) :
  Calls Tryz.prog 78 #[.slice a n c] w fun e u=>e = .returned (.bool (litV zs))∧w.grownBy u none:=by
 have hl:=h.2.2;have hfl:=h.1.1;by_cases h20:n≤20
 ·
  have hE:Hid (litV zs = !zs.any noLit):=by show _=_;unfold litV;rw[hfl];simp [h20]
  have h20':¬ (n:Int) > 20:=by omega
  have hcs:(n=0∧zs=[])∨∃ b o,a=some ⟨b,o,none⟩∧DrB w b o zs∧0 < n:=by
   by_cases h0:n=0
   ·
    exact .inl ⟨h0,lz0 (by omega)⟩
   ·
    rcases h.1.2 with h2|⟨b,o,e,h2⟩
    ·
     exact absurd h2 h0
    ·
     exact .inr ⟨b,o,e,fun i hi=>h2 i (by omega),by omega⟩
  rcases hcs with ⟨rfl,rfl⟩|⟨b,o,rfl,hin,hpos⟩
  ·
   clear h;go_enter Tryz.func78,Tryz.ntmps78;go_wp2;refine wp_loop_rounds 1 ?_;rw[rounds_succ];go_wp2;go_ret;exact ⟨by rw[hE.out];rfl,grf _ _⟩
  have IN:Hid (DrB w b o zs):=hin;clear hin h;go_enter Tryz.func78,Tryz.ntmps78;go_wp2
  go_loopw [3] (fun i wr=>∃ (j:Nat) (R:List Int),j≤n∧i = .int .i64 j∧R.length+j=n∧Hid (w.grownBy wr none∧DrB wr b (o+j) R∧zs.any noLit=R.any noLit)) (fun i _=>n - (intOf i).toNat)
  case atStart=>exact ⟨0,zs,Nat.zero_le _,rfl,by omega,grf _ _,by simpa using IN.out,rfl⟩
  case round =>
   obtain ⟨j,R,hj,rfl,hRl,HR⟩:=hrel;by_cases hlt:j < n
   ·
    obtain ⟨z,R',rfl⟩:∃ x R',R=x::R':=by
     cases R with
     | nil=>simp at hRl;omega
     | cons x R'=>exact ⟨x,R',rfl⟩
    obtain ⟨hg,hR,hv⟩:=HR.out;obtain ⟨k0,hT⟩:=hR.tl;rw[show o+j+1=o+(j+1) by omega] at hT;simp only[List.any_cons] at hv;simp only[lB] at hRl;have FX:Hid (w.grownBy wr none∧DrB wr b (o+(j+1)) R'∧zs.any noLit=(noLit z || R'.any noLit)):=⟨hg,hT,hv⟩;clear hg hR hv hT HR IN
    cases hb:noLit z with
    | true =>
     have FZ:Hid (litV zs=false∧w.grownBy wr none):=⟨by rw[hE.out,FX.out.2.2,hb];rfl,FX.out.1⟩;clear FX hE;simp only[noLit,Bool.or_eq_true,dE9] at hb;by_cases h1:z < 32
     ·
      go_wp2;go_ret;exact ⟨by rw[FZ.out.1];rfl,FZ.out.2⟩
     by_cases h2:z > 126
     ·
      go_wp2;go_ret;exact ⟨by rw[FZ.out.1];rfl,FZ.out.2⟩
     by_cases h3:z=34
     ·
      subst h3;go_wp2;go_ret;exact ⟨by rw[FZ.out.1];rfl,FZ.out.2⟩
     ·
      obtain rfl:z=92:=by omega
      go_wp2;go_ret;exact ⟨by rw[FZ.out.1];rfl,FZ.out.2⟩
    | false =>
     have FZ:Hid (w.grownBy wr none∧DrB wr b (o+(j+1)) R'∧zs.any noLit=R'.any noLit):=⟨FX.out.1,FX.out.2.1,by rw[FX.out.2.2,hb,Bool.false_or]⟩;clear FX;simp only[noLit,Bool.or_eq_false_iff,decide_eq_false_iff_not] at hb;obtain ⟨⟨⟨h1,h2⟩,h3⟩,h4⟩:=hb;have h2':¬ z > 126:=h2
     have h3b:(z == 34)=false:=by simpa using h3
     have h4b:(z == 92)=false:=by simpa using h4
     go_wp2;go_roundw
     case rel=>exact ⟨j+1,R',by omega,by go_num,by omega,FZ⟩
     case measure=>simp [intOf];omega
   ·
    obtain rfl:j=n:=by omega
    obtain rfl:R=[]:=lz0 (by omega);have FZ:Hid (litV zs=true∧w.grownBy wr none):=⟨by rw[hE.out,HR.out.2.2];rfl,HR.out.1⟩;clear HR;go_wp2;go_ret;exact ⟨by rw[FZ.out.1];rfl,FZ.out.2⟩
 ·
  have hE:Hid (litV zs=false):=by show _=_;unfold litV;rw[hfl];simp [h20]
  have h20':(n:Int) > 20:=by omega
  clear h;go_enter Tryz.func78,Tryz.ntmps78;go_wp2;go_ret;exact ⟨by rw[hE.out];rfl,grf _ _⟩
def partV (op:Int):Int:=if op=22 then 3 else if op=21 then 2 else if op=2 then 4 else if hasA op then 1 else 0
theorem l8partsT (op:Int) (w:World) :
  Calls Tryz.prog 31 #[.int .i64 op] w fun e u=>e = .returned (.int .i64 (partV op))∧u=w:=by
 by_cases h1:op=1
 ·
  subst h1;go_enter Tryz.func31,Tryz.ntmps31;go_wp2;go_ret;exact ⟨rfl,rfl⟩
 have k1:(op == 1)=false:=by simpa using h1
 by_cases h4:op=4
 ·
  subst h4;go_enter Tryz.func31,Tryz.ntmps31;go_wp2;go_ret;exact ⟨rfl,rfl⟩
 have k4:(op == 4)=false:=by simpa using h4
 by_cases h6:op=6
 ·
  subst h6;go_enter Tryz.func31,Tryz.ntmps31;go_wp2;go_ret;exact ⟨rfl,rfl⟩
 have k6:(op == 6)=false:=by simpa using h6
 by_cases h7:op=7
 ·
  subst h7;go_enter Tryz.func31,Tryz.ntmps31;go_wp2;go_ret;exact ⟨rfl,rfl⟩
 have k7:(op == 7)=false:=by simpa using h7
 by_cases h23:op=23
 ·
  subst h23;go_enter Tryz.func31,Tryz.ntmps31;go_wp2;go_ret;exact ⟨rfl,rfl⟩
 have k23:(op == 23)=false:=by simpa using h23
 by_cases h26:op=26
 ·
  subst h26;go_enter Tryz.func31,Tryz.ntmps31;go_wp2;go_ret;exact ⟨rfl,rfl⟩
 have k26:(op == 26)=false:=by simpa using h26
 by_cases h27:op=27
 ·
  subst h27;go_enter Tryz.func31,Tryz.ntmps31;go_wp2;go_ret;exact ⟨rfl,rfl⟩
 have k27:(op == 27)=false:=by simpa using h27
 by_cases h29:op=29
 ·
  subst h29;go_enter Tryz.func31,Tryz.ntmps31;go_wp2;go_ret;exact ⟨rfl,rfl⟩
 have k29:(op == 29)=false:=by simpa using h29
 by_cases h31:op=31
 ·
  subst h31;go_enter Tryz.func31,Tryz.ntmps31;go_wp2;go_ret;exact ⟨rfl,rfl⟩
 have k31:(op == 31)=false:=by simpa using h31
 by_cases h21:op=21
 ·
  subst h21;go_enter Tryz.func31,Tryz.ntmps31;go_wp2;go_ret;exact ⟨rfl,rfl⟩
 have k21:(op == 21)=false:=by simpa using h21
 by_cases h22:op=22
 ·
  subst h22;go_enter Tryz.func31,Tryz.ntmps31;go_wp2;go_ret;exact ⟨rfl,rfl⟩
 have k22:(op == 22)=false:=by simpa using h22
 by_cases h2:op=2
 ·
  subst h2;go_enter Tryz.func31,Tryz.ntmps31;go_wp2;go_ret;exact ⟨rfl,rfl⟩
 have k2:(op == 2)=false:=by simpa using h2
 have HE:Hid (partV op=0):=by show _=_;simp [partV,hasA,h1,h4,h6,h7,h23,h26,h27,h29,h31,h21,h22,h2]
 go_enter Tryz.func31,Tryz.ntmps31;go_wp2;go_ret;exact ⟨by rw[HE.out];rfl,rfl⟩
def cA (a k:Int):Bool:=decide (a < 0) || decide (2147483647 < a) || (!decide (a=0) && (decide (k=0) || decide (k=4)))
def c9 (b:Int) (l1 l2:Nat) (k:Int):Bool:=decide (b < 0) || decide (2147483647 < b) || (!decide (b=0) && !decide (k=2)) || (decide (0 < l1) && !decide (k=4)) || decide (20 < l1) || decide (5 < l2) || (decide (0 < l2) != decide (k=3))
def specIns (x:RIns):Bool:=opOk x.op && (if x.op=1 then wholeV x.a else !cA x.a (partV x.op)) && !c9 x.b x.lit.length x.tos.length (partV x.op) && !x.tos.any noNum && litV x.lit
theorem lit_nil {zs:List Int} (h:zs.length=0):litV zs=true:=by
 obtain rfl:=lz0 h;rfl
theorem lit_len {zs:List Int} (h:litV zs=true):zs.length≤20:=by
 simp only[litV,bA9,dE9] at h;exact h.1
theorem any_nil {zs:List Int} (h:zs.length=0):zs.any noNum=false:=by
 obtain rfl:=lz0 h;rfl
theorem cA_has {a:Int}:(!cA a 1)=numV a:=by
 rw[Bool.eq_iff_iff];simp [cA,numV]
theorem cA_two {a:Int}:(!cA a 2)=numV a:=by
 rw[Bool.eq_iff_iff];simp [cA,numV]
theorem cA_three {a:Int}:(!cA a 3)=numV a:=by
 rw[Bool.eq_iff_iff];simp [cA,numV]
theorem cA_none {a:Int}:(!cA a 0)=decide (a=0):=by
 rw[Bool.eq_iff_iff];simp [cA];omega
theorem cA_four {a:Int}:(!cA a 4)=decide (a=0):=by
 rw[Bool.eq_iff_iff];simp [cA];omega
theorem c9_iff (b:Int) (l1 l2:Nat) (k:Int):c9 b l1 l2 k=false ↔ (0≤b∧b≤2147483647∧(b=0∨k=2)∧(l1=0∨k=4)∧l1≤20∧l2≤5∧(0 < l2 ↔ k=3)):=by
 by_cases h3:k=3
 ·
  simp [c9,h3];omega
 ·
  by_cases h2:k=2
  ·
   simp [c9,h2];omega
  ·
   by_cases h4:k=4
   ·
    simp [c9,h4];omega
   ·
    simp [c9,h3,h2,h4];omega
theorem rest_of (b:Int) (lit tos:List Int) (k:Int):(!c9 b lit.length tos.length k && !tos.any noNum && litV lit)=true ↔ ((0≤b∧b≤2147483647∧(b=0∨k=2)∧(lit.length=0∨k=4)∧lit.length≤20∧tos.length≤5∧(0 < tos.length ↔ k=3))∧tos.any noNum=false)∧litV lit=true:=by
 rw[bA9,bA9,Bool.not_eq_true',Bool.not_eq_true',c9_iff]
theorem rest_none (k:Int) (h2:k≠2) (h3:k≠3) (h4:k≠4) (b:Int) (lit tos:List Int):(!c9 b lit.length tos.length k && !tos.any noNum && litV lit)=(decide (b=0) && decide (lit.length=0) && decide (tos.length=0)):=by
 rw[Bool.eq_iff_iff,rest_of];simp only[bA9,dE9];constructor
 ·
  rintro ⟨⟨h,-⟩,-⟩;exact ⟨⟨by omega,by omega⟩,by omega⟩
 ·
  rintro ⟨⟨hb,hl⟩,ht⟩;exact ⟨⟨by omega,any_nil ht⟩,lit_nil hl⟩
theorem rest_two (k:Int) (hk:k=2) (b:Int) (lit tos:List Int):(!c9 b lit.length tos.length k && !tos.any noNum && litV lit)=(numV b && decide (lit.length=0) && decide (tos.length=0)):=by
 rw[Bool.eq_iff_iff,rest_of];simp only[numV,bA9,dE9];constructor
 ·
  rintro ⟨⟨h,-⟩,-⟩;exact ⟨⟨⟨by omega,by omega⟩,by omega⟩,by omega⟩
 ·
  rintro ⟨⟨hb,hl⟩,ht⟩;exact ⟨⟨by omega,any_nil ht⟩,lit_nil hl⟩
theorem rest_four (k:Int) (hk:k=4) (b:Int) (lit tos:List Int):(!c9 b lit.length tos.length k && !tos.any noNum && litV lit)=(decide (b=0) && litV lit && decide (tos.length=0)):=by
 rw[Bool.eq_iff_iff,rest_of];simp only[bA9,dE9];constructor
 ·
  rintro ⟨⟨h,-⟩,hl⟩;exact ⟨⟨by omega,hl⟩,by omega⟩
 ·
  rintro ⟨⟨hb,hl⟩,ht⟩;have:=lit_len hl;exact ⟨⟨by omega,any_nil ht⟩,hl⟩
theorem rest_three (k:Int) (hk:k=3) (b:Int) (lit tos:List Int):(!c9 b lit.length tos.length k && !tos.any noNum && litV lit)=(decide (b=0) && decide (lit.length=0) && toV tos):=by
 rw[Bool.eq_iff_iff,rest_of];simp only[toV,bA9,dE9,Bool.not_eq_true'];constructor
 ·
  rintro ⟨⟨h,ha⟩,hl⟩;exact ⟨⟨by omega,by omega⟩,⟨by omega,by omega⟩,ha⟩
 ·
  rintro ⟨⟨hb,hl⟩,⟨h1,h5⟩,ha⟩;exact ⟨⟨by omega,ha⟩,lit_nil hl⟩
theorem specIns_eq (x:RIns):specIns x=insV x:=by
 obtain ⟨op,a,b,lit,tos⟩:=x
 have e:∀ p q r s t:Bool,(p && q && r && s && t)=(p && q && (r && s && t)):=by decide
 have e2:∀ p q r s t:Bool,(p && q && (r && s && t))=(p && q && r && s && t):=by decide
 unfold specIns insV;rw[e];simp only[];by_cases h22:op=22
 ·
  subst h22;have hp:partV 22=3:=rfl;rw[hp,rest_three 3 rfl];simp [aV,bV,lV,tV,cA_three,hasA,Bool.and_assoc]
 by_cases h21:op=21
 ·
  subst h21;have hp:partV 21=2:=rfl;rw[hp,rest_two 2 rfl];simp [aV,bV,lV,tV,cA_two,hasA,Bool.and_assoc]
 by_cases h2:op=2
 ·
  subst h2;have hp:partV 2=4:=rfl;rw[hp,rest_four 4 rfl];simp [aV,bV,lV,tV,cA_four,hasA,Bool.and_assoc]
 cases hh:hasA op with
 | true =>
  have hp:partV op=1:=by simp [partV,h22,h21,h2,hh]
  rw[hp,rest_none 1 (by omega) (by omega) (by omega)];by_cases h1:op=1
  ·
   simp [aV,bV,lV,tV,h1,Bool.and_assoc]
  ·
   simp [aV,bV,lV,tV,h1,h22,h21,h2,cA_has,Bool.and_assoc]
 | false =>
  have hp:partV op=0:=by simp [partV,h22,h21,h2,hh]
  have h1:op≠1:=by rintro rfl;cases hh
  rw[hp,rest_none 0 (by omega) (by omega) (by omega)];simp [aV,bV,lV,tV,h1,h22,h21,h2,cA_none,Bool.and_assoc]
theorem step_pushG {P:Program} {w:World} {ops:Array Oper} {o:Oper} {ac:Act} {K:Act→World→Prop} {Q:Exit→Act→World→Prop} {E:Prop}
  (hg:o.guard=none) (s x:Operand) (t:TypeId) (ho:o.op = .call { callee:=.builtin .append,args:=#[s,x],argTypes:=#[t,t] })
  (e:TypeId) (i:TypeInfo) (z:Value) (ht:P.underlying t=some (.slice e)) (hi:P.info? e=some i) (hz:i.zero=some z) (sz:Nat) (hsize:i.size=sz) (hby:i.bytes≤1000) (hzs:z.cells.size=sz)
  (a:Option Addr) (l c:Nat) (f:G) (bs:List Nat) (hs:ac.eval s = .slice a l c) (h:SlG w sz a l c f bs) (hnd:bs.Nodup) (ha:l=0→c=0∧a=none) (hl:l≤100000) (q oo:Nat) (hx:ac.eval x = .slice (some ⟨q,oo,none⟩) 1 1) (X:G) (bd:List Nat) (hX:OwnG w X q oo bd) (hXl:X.len=sz) (hndd:bd.Nodup) (hdis:∀ x ∈ bs,x ∉ bd)
  (H:∀ a2 c2 bs2 w',SlG w' sz a2 (l+1) c2 (f.app X) bs2→bs2.Nodup→(∀ x ∈ bs2,x ∈ bs∨x ∈ bd∨w.heap.size≤x)→Tn w w' bs→K (ac.put o.dst (.slice a2 (l+1) c2)) w') :
  if Region.wanted o (yielded ops ac.tmps)=true then Oper.wp P o ac w K Q else E:=by
 have hw:Region.wanted o (yielded ops ac.tmps)=true:=by simp [Region.wanted,hg]
 rw[if_pos hw];obtain ⟨a2,c2,bs2,w',hrun,h1,h2,h3,h4⟩:=run_pushG (P:=P) (w:=w) t o.type e i z ht hi hz sz hsize hby hzs a l c f bs h hnd ha hl q oo X bd hX hXl hndd hdis;unfold Oper.wp execOp;simp only[ho,resolve,invoke,builtin,Sem.run_bind,Sem.run_pure,Result.andThen_ok,List.map_toArray,List.map_cons,List.map_nil,hs,hx,hrun];exact H a2 c2 bs2 w' h1 h2 h3 h4
end Go.Proofs.YtnmlbeefjjohfaaGreatDoor.By
