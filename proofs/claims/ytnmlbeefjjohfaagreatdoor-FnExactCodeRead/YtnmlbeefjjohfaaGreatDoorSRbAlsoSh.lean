/-
  No statement is proved here.
-/
import Derived.Test.YtnmlbeefjjohfaaGreatDoorCRbAlsoSh
namespace Go.Proofs.YtnmlbeefjjohfaaGreatDoor.By
set_option maxRecDepth 100000
set_option maxHeartbeats 16000000
open Go.RowKit
set_option linter.unusedVariables false
set_option linter.unusedSimpArgs false
def RlA (w u:World) (q g N s:Nat) (X:G) (len:Nat) (p:Int) (e:Ending):Prop :=
 ∃ a c bs,e = .returned (.slice a len c)∧w.grownBy u (some q)∧CRd u q g N p∧SlG u s a len c X bs∧bs.Nodup∧∀ y ∈ bs,w.heap.size≤y
def AdvS {X:Type} (sz:X→Nat) (N:Nat) (f:Int→X × Int):Prop:=∀ p:Int,0≤p→p≤N→(f p).2 < 0∨(p+1+sz (f p).1≤(f p).2∧(f p).2≤N)
def Adv {X:Type} (N:Nat) (f:Int→X × Int):Prop:=∀ p:Int,0≤p→p≤N→(f p).2 < 0∨(p+1≤(f p).2∧(f p).2≤N)
theorem AdvS.adv {X:Type} {sz:X→Nat} {N:Nat} {f:Int→X × Int} (h:AdvS sz N f):Adv N f:=fun p h0 h1=>by have:=h p h0 h1;omega
theorem getAt_ge (zs:List Int) (p:Nat):∀ (f i:Nat) (n:Int),getAt zs p f i n=(0,-1)∨((p:Int)+i+1≤(getAt zs p f i n).2∧(getAt zs p f i n).1≤2147483647)
 | 0,i,n=>.inl rfl
 | f+1,i,n=>by
  unfold getAt
  split
  ·
   split
   ·
    rcases getAt_ge zs p f (i+1) (n+zs.getD (p+i) 0 % 128 * 128 ^ i) with h|⟨h1,h2⟩
    ·
     exact .inl h
    ·
     exact .inr ⟨by omega,h2⟩
   ·
    split
    ·
     exact .inl rfl
    ·
     rename_i hc
     exact .inr ⟨Int.le_refl _,by simp only;omega⟩
  ·
   exact .inl rfl
theorem getNum_ge (zs:List Int) {p:Int} (h:0≤p):getNum zs p=(0,-1)∨(p+1≤(getNum zs p).2∧(getNum zs p).1≤2147483647):=by
 unfold getNum;rw[if_neg (by omega)];rcases getAt_ge zs p.toNat 5 0 0 with h1|⟨h1,h2⟩
 ·
  exact .inl h1
 ·
  exact .inr ⟨by omega,h2⟩
theorem getNum_big (zs:List Int) (p:Int):(getNum zs p).1≤2147483647:=by
 by_cases h:0≤p
 ·
  rcases getNum_ge zs h with h|h
  ·
   rw[h];decide
  ·
   exact h.2
 ·
  unfold getNum;rw[if_pos (by omega)];decide
theorem getNum_neg (zs:List Int) {p:Int} (h:p < 0):getNum zs p=(0,-1):=by unfold getNum;rw[if_pos h]
theorem getText_neg (zs:List Int) {p:Int} (h:p < 0):getText zs p=none:=by unfold getText;rw[getNum_neg zs h];rfl
theorem readV_neg (zs:List Int) {p:Int} (h:p < 0):readV zs p=(0,0,.nil,-1):=by
 unfold readV;rw[show rdT zs 10 p=none by rw[rdT,show hd zs p=none by unfold hd;rw[if_pos (.inl h)]]]
theorem parI_good {zs:List Int} (hz:Byt zs):Good (parI zs) (parS zs) where
 nm:=fun most p h0 h1 h2=>by
  show (if p < 0 then _ else _)=getNum zs p
  rw[if_neg (by omega),if_neg];rintro (h|h)
  ·
   have:0≤(getNum zs p).2:=h1;omega
  ·
   have:(getNum zs p).1≤most:=h2;omega
 nn:=fun most p=>by show 0≤(getNum zs p).1;rcases getNum_bounds zs hz p with h|h;(rw[h];decide);exact h.1
 big:=fun p=>getNum_big zs p
 ty:=fun p h=>by show (if p < 0 then _ else _)=readV zs p;rw[if_neg (by omega)]
 op:=fun p h0 h1 h2=>by
  simp only[parI,parS] at h1 h2 ⊢
  split
  ·
   rfl
  ·
   rename_i hc
   rw[if_neg hc] at h2;simp only at h2;rw[if_pos h2]
 tx:=fun p _=>rfl
 nmN:=fun most p h=>by show (getNum zs p).2 < 0;rw[getNum_neg zs h];decide
 tyN:=fun p h=>by show (readV zs p).2.2.2 < 0;rw[readV_neg zs h];decide
 txN:=fun p h=>by show (match getText zs p with|none=>(([]:List Int),(-1:Int)) | some y=>y).2 < 0;rw[getText_neg zs h];decide
theorem parS_good {zs:List Int} (hz:Byt zs):Good (parS zs) (parI zs) where
 nm:=fun most p h0 h1 h2=>by
  have e:(parS zs).nm most p=if (getNum zs p).2 < 0∨most < (getNum zs p).1 then (0,-1) else getNum zs p:=by simp only[parS];rw[if_neg (by omega)]
  rw[e] at h1 ⊢
  split
  ·
   rename_i hc;rw[if_pos hc] at h1;simp only at h1;omega
  ·
   rfl
 nn:=fun most p=>by
  simp only[parS]
  split
  ·
   exact Int.le_refl _
  ·
   split
   ·
    exact Int.le_refl _
   ·
    rcases getNum_bounds zs hz p with h|h;(rw[h];decide);exact h.1
 big:=fun p=>by
  simp only[parS]
  split
  ·
   show (0:Int)≤_;omega
  ·
   split
   ·
    show (0:Int)≤_;omega
   ·
    exact getNum_big zs p
 ty:=fun p h=>by show readV zs p=(if p < 0 then _ else _);rw[if_neg (by omega)]
 op:=fun p h0 h1 h2=>by
  simp only[parI,parS] at h1 h2 ⊢
  split
  ·
   rfl
  ·
   rename_i hc
   rw[if_neg hc] at h2;simp only at h2;rw[if_pos h2]
 tx:=fun p _=>rfl
 nmN:=fun most p h=>by simp only[parS];rw[if_pos h];exact h
 tyN:=fun p h=>by simp only[parS];rw[if_pos h];exact h
 txN:=fun p h=>by show (match getText zs p with|none=>(([]:List Int),(-1:Int)) | some y=>y).2 < 0;rw[getText_neg zs h];decide
theorem nm_advS {zs:List Int} {N:Nat} (hz:Byt zs) (hl:zs.length=N) (m:Int):AdvS (fun _=>0) N ((parI zs).nm m):=by
 intro p h0 h1
 show (getNum zs p).2 < 0∨(p+1+0≤(getNum zs p).2∧(getNum zs p).2≤N)
 rcases getNum_ge zs h0 with h|h
 ·
  rw[h];exact .inl (by decide)
 ·
  rcases getNum_bounds zs hz p with h2|h2
  ·
   rw[h2];exact .inl (by decide)
  ·
   exact .inr ⟨by omega,by rw[← hl];exact h2.2.2⟩
theorem nm_adv {zs:List Int} {N:Nat} (hz:Byt zs) (hl:zs.length=N):Adv N ((parI zs).nm 0):=(nm_advS hz hl 0).adv
theorem hdN_ge {zs:List Int} {N:Nat} (hz:Byt zs) (hl:zs.length=N) {k p:Int} (h0:0≤p) {x:Int × Int × Nat × Int} (h:hdN zs k p=some x):p≤x.2.2.2:=by
 have b1:=getNum_ge zs h0;unfold hdN at h
 split at h
 ·
  injection h with h;subst h;exact Int.le_refl _
 ·
  split at h
  ·
   injection h with h;subst h;exact Int.le_refl _
  ·
   split at h
   ·
    injection h with h;subst h;exact Int.le_refl _
   ·
    split at h
    ·
     split at h
     ·
      cases h
     ·
      rename_i hc
      injection h with h;subst h;rcases b1 with b1|b1
      ·
       rw[b1] at hc;exact absurd (by decide) hc
      ·
       show p≤(getNum zs p).2;omega
    ·
     split at h
     ·
      split at h
      ·
       cases h
      ·
       rename_i hc
       split at h
       ·
        cases h
       ·
        rename_i hd
        injection h with h;subst h;rcases b1 with b1|b1
        ·
         rw[b1] at hc;exact absurd (by decide) hc
        ·
         rcases getNum_ge zs (p:=(getNum zs p).2) (by omega) with b2|b2
         ·
          rw[b2] at hd;exact absurd (.inl (by decide)) hd
         ·
          show p≤(getNum zs (getNum zs p).2).2;omega
     ·
      cases h
theorem rdL_ge {zs:List Int} {N:Nat} (hz:Byt zs) (hl:zs.length=N) {g:Int→Option (Int × Int × F × Int)} (hg:∀ p x,0≤p→g p=some x→p+1+x.2.2.1.size≤x.2.2.2):∀ {c:Nat} {p:Int} {y:F × Int},0≤p→rdL g c p=some y→p+y.1.size≤y.2:=by
 intro c
 induction c with
 | zero=>intro p y h0 h;simp only[rdL,Option.some.injEq] at h;subst h;simp [F.size]
 | succ c ih =>
  intro p y h0 h;rw[rdL] at h
  cases hx:g p with
  | none=>rw[hx] at h;cases h
  | some x =>
   rw[hx] at h;have hb:=hg p x h0 hx
   cases hl':rdL g c x.2.2.2 with
   | none=>simp only[hl'] at h;cases h
   | some z =>
    simp only[hl',Option.some.injEq] at h;subst h;have:=ih (by omega) hl';simp only[F.size];push_cast;omega
theorem rdT_ge {zs:List Int} {N:Nat} (hz:Byt zs) (hl:zs.length=N):∀ (d:Nat) (p:Int) (x:Int × Int × F × Int),0≤p→rdT zs d p=some x→p+1+x.2.2.1.size≤x.2.2.2:=by
 intro d
 induction d with
 | zero=>intro p x _ h;cases h
 | succ d ih =>
  intro p x h0 h;rw[rdT] at h
  cases hh:hd zs p with
  | none=>rw[hh] at h;cases h
  | some y =>
   rw[hh] at h;unfold hd at hh
   split at hh
   ·
    cases hh
   ·
    have hb:=hdN_ge hz hl (by omega) hh
    cases hl':rdL (rdT zs d) y.2.2.1 y.2.2.2 with
    | none=>simp only[hl'] at h;cases h
    | some z =>
     simp only[hl',Option.some.injEq] at h;subst h;have:=rdL_ge hz hl (fun p x hp hx=>ih p x hp hx) (by omega) hl';simp only;omega
theorem tyP_advS {zs:List Int} {N:Nat} (hz:Byt zs) (hl:zs.length=N):AdvS szT3 N (tyP (parI zs)):=by
 intro p h0 h1
 show (readV zs p).2.2.2 < 0∨(p+1+((readV zs p).2.2.1.size:Nat)≤(readV zs p).2.2.2∧(readV zs p).2.2.2≤N)
 unfold readV
 cases hT:rdT zs 10 p with
 | none=>exact .inl (by simp)
 | some y =>
  simp only
  split
  ·
   have h2:=rdT_bounds hz 10 p y hT;exact .inr ⟨rdT_ge hz hl 10 p y h0 hT,by rw[← hl];exact h2.2⟩
  ·
   exact .inl (by simp)
theorem tyP_adv {zs:List Int} {N:Nat} (hz:Byt zs) (hl:zs.length=N):Adv N (tyP (parI zs)):=(tyP_advS hz hl).adv
theorem listN_advS {N:Nat} {X:Type} {sz:X→Nat} {f:Int→X × Int} (hf:AdvS sz N f):∀ (n:Nat) (p:Int),0≤p→p≤N→(listN f n p).2 < 0∨(p+(sumN sz (listN f n p).1:Nat)≤(listN f n p).2∧(listN f n p).2≤N)
 | 0,p,h0,h1=>.inr ⟨by simp [listN,sumN],h1⟩
 | n+1,p,h0,h1=>by
  rw[listN_succ f n h0];rcases hf p h0 h1 with h|⟨h2,h3⟩
  ·
   rw[listN_neg f n h];exact .inl h
  ·
   rcases listN_advS hf n (f p).2 (by omega) h3 with h|⟨h4,h5⟩
   ·
    exact .inl h
   ·
    exact .inr ⟨by simp only[sumN];push_cast;omega,h5⟩
theorem listP_advS {zs:List Int} {N:Nat} (hz:Byt zs) (hl:zs.length=N) {X:Type} {sz:X→Nat} {f:Int→X × Int} (hf:AdvS sz N f) (m:Int):AdvS (sumN sz) N (listP (parI zs) f m):=by
 intro p h0 h1;unfold listP;rcases nm_advS hz hl m p h0 h1 with h|⟨h2,h3⟩
 ·
  rw[listN_neg _ _ h];exact .inl h
 ·
  rcases listN_advS hf ((parI zs).nm m p).1.toNat ((parI zs).nm m p).2 (by omega) h3 with h|⟨h4,h5⟩
  ·
   exact .inl h
  ·
   exact .inr ⟨by omega,h5⟩
theorem typesP_advS {zs:List Int} {N:Nat} (hz:Byt zs) (hl:zs.length=N) (m:Int):AdvS F.size N (typesP (parI zs) m):=by
 intro p h0 h1;have:=listP_advS hz hl (tyP_advS hz hl) m p h0 h1;unfold typesP;rw[toF_size];exact this
theorem typesP_adv {zs:List Int} {N:Nat} (hz:Byt zs) (hl:zs.length=N):Adv N (typesP (parI zs) 3):=(typesP_advS hz hl 3).adv
theorem sum_tyss:∀ xs:List F,szTyss xs=sumN F.size xs
 | []=>rfl
 | x::r=>by simp only[szTyss,sumN,sum_tyss r]
theorem sum_lays:∀ xs:List RLayout,szLayouts xs=sumN szLayout xs
 | []=>rfl
 | x::r=>by simp only[szLayouts,sumN,sum_lays r]
theorem sum_inss:∀ xs:List RIns,szInss xs=sumN szIns xs
 | []=>rfl
 | x::r=>by simp only[szInss,sumN,sum_inss r]
theorem sum_blks:∀ xs:List RBlock,szBlocks xs=sumN szBlock xs
 | []=>rfl
 | x::r=>by simp only[szBlocks,sumN,sum_blks r]
theorem sum_ints:∀ xs:List Int,xs.length=sumN (fun _=>0) xs
 | []=>rfl
 | x::r=>by simp only[lB,sumN];rw[sum_ints r];omega
theorem layP_advS {zs:List Int} {N:Nat} (hz:Byt zs) (hl:zs.length=N):AdvS szLayout N (layP (parI zs)):=by
 intro p h0 h1;have:=listP_advS hz hl (typesP_advS hz hl 3) 5 p h0 h1;unfold layP szLayout;simp only;rw[sum_tyss];exact this
theorem layP_adv {zs:List Int} {N:Nat} (hz:Byt zs) (hl:zs.length=N):Adv N (layP (parI zs)):=(layP_advS hz hl).adv
theorem insP_advS {zs:List Int} {N:Nat} (hz:Byt zs) (hl:zs.length=N):AdvS szIns N (insP (parI zs)):=by
 intro p h0 h1;have hP:=parI_good hz;by_cases hn:(insP (parI zs) p).2 < 0
 ·
  exact .inl hn
 refine .inr ?_;unfold insP at hn ⊢;unfold szIns;simp only at hn ⊢;have k1:=litP_at hP (Int.not_lt.1 hn);have k2:=toP_at hP k1;have k3:=bP_at hP k2;have k4:=aP_at hP k3
 have o1:p+1=((parI zs).op p).2∧((parI zs).op p).2≤N:=by
  simp only[parI] at k4 ⊢
  split at k4
  ·
   simp only at k4;omega
  ·
   rename_i hc
   rw[if_neg hc] at ⊢;simp only at k4 ⊢
   split at k4
   ·
    rename_i h31;rw[if_pos h31];omega
   ·
    omega
 generalize ((parI zs).op p).1=op at *;generalize ((parI zs).op p).2=q0 at *
 have a1:q0≤(aP (parI zs) op q0).2∧(aP (parI zs) op q0).2≤N:=by
  unfold aP at k3 ⊢
  split
  ·
   rename_i e;rw[if_pos e] at k3;have:=nm_advS hz hl 2147483647 q0 k4 o1.2;simp only at k3 ⊢;omega
  ·
   rename_i e
   rw[if_neg e] at k3
   split
   ·
    rename_i e2;rw[if_pos e2] at k3;have:=nm_advS hz hl 2147483647 q0 k4 o1.2;omega
   ·
    exact ⟨Int.le_refl _,o1.2⟩
 generalize (aP (parI zs) op q0).2=q1 at *
 have b1:q1≤(bP (parI zs) op q1).2∧(bP (parI zs) op q1).2≤N:=by
  unfold bP at k2 ⊢
  split
  ·
   rename_i e;rw[if_pos e] at k2;have:=nm_advS hz hl 2147483647 q1 k3 a1.2;omega
  ·
   exact ⟨Int.le_refl _,a1.2⟩
 generalize (bP (parI zs) op q1).2=q2 at *
 have t1:q2+(toP (parI zs) op q2).1.length≤(toP (parI zs) op q2).2∧(toP (parI zs) op q2).2≤N:=by
  unfold toP at k1 ⊢
  split
  ·
   rename_i e;rw[if_pos e] at k1;have:=listP_advS hz hl (nm_advS hz hl 2147483647) 5 q2 k2 b1.2;rw[sum_ints];omega
  ·
   exact ⟨by simp,b1.2⟩
 generalize (toP (parI zs) op q2).2=q3 at *
 have l1:q3+(litP (parI zs) op q3).1.length≤(litP (parI zs) op q3).2∧(litP (parI zs) op q3).2≤N:=by
  unfold litP at hn ⊢
  split
  ·
   rename_i e
   rw[if_pos e] at hn;simp only[parI] at hn ⊢
   cases hT:getText zs q3 with
   | none=>rw[hT] at hn;simp only at hn;omega
   | some y =>
    simp only;unfold getText at hT
    split at hT
    ·
     cases hT
    ·
     rename_i hc
     injection hT with hT;subst hT;simp only[List.length_take,List.length_drop];have hb:=getNum_bounds zs hz q3;have hg:=getNum_ge zs k1;rcases hg with hg|hg
     ·
      rw[hg] at hc;exact absurd (.inl (by decide)) hc
     ·
      rcases hb with hb|hb
      ·
       rw[hb] at hc;exact absurd (.inl (by decide)) hc
      ·
       omega
  ·
   exact ⟨by simp,t1.2⟩
 omega
theorem insP_adv {zs:List Int} {N:Nat} (hz:Byt zs) (hl:zs.length=N):Adv N (insP (parI zs)):=(insP_advS hz hl).adv
theorem blkP_advS {zs:List Int} {N:Nat} (hz:Byt zs) (hl:zs.length=N):AdvS szBlock N (blkP (parI zs)):=by
 intro p h0 h1;have hP:=parI_good hz;by_cases hn:(blkP (parI zs) p).2 < 0
 ·
  exact .inl hn
 refine .inr ?_;unfold blkP at hn ⊢;unfold szBlock;simp only at hn ⊢;have k1:=listP_at hP (Int.not_lt.1 hn);have k2:0≤(tyP (parI zs) _).2:=listP_at hP k1;have k3:0≤(tyP (parI zs) _).2:=tyP_at hP k2;have k4:0≤(typesP (parI zs) 60 p).2:=tyP_at hP k3;have a1:=typesP_advS hz hl 60 p h0 h1;have a2:=tyP_advS hz hl (typesP (parI zs) 60 p).2 k4 (by omega);have a3:=tyP_advS hz hl (tyP (parI zs) (typesP (parI zs) 60 p).2).2 k3 (by omega);have a4:=typesP_advS hz hl 60 (tyP (parI zs) (tyP (parI zs) (typesP (parI zs) 60 p).2).2).2 k2 (by omega);have a5:=listP_advS hz hl (insP_advS hz hl) 1000 (typesP (parI zs) 60 (tyP (parI zs) (tyP (parI zs) (typesP (parI zs) 60 p).2).2).2).2 k1 (by omega);rw[sum_inss];simp only[szT3] at a2 a3
 push_cast
 omega
theorem blkP_adv {zs:List Int} {N:Nat} (hz:Byt zs) (hl:zs.length=N):Adv N (blkP (parI zs)):=(blkP_advS hz hl).adv
theorem progP_size {zs:List Int} {N:Nat} (hz:Byt zs) (hl:zs.length=N) (p:Int) (h0:0≤p) (h1:p≤N) (h:0≤(progP (parI zs) p).2):szProg (progP (parI zs) p).1≤N:=by
 have hP:=parI_good hz;unfold progP szProg at *;simp only at h ⊢;have k1:=listP_at hP h;have k2:=listP_at hP k1;have a1:=listP_advS hz hl (layP_advS hz hl) 20 p h0 h1;have a2:=listP_advS hz hl (nm_advS hz hl 4) 5 (listP (parI zs) (layP (parI zs)) 20 p).2 k2 (by omega);have a3:=listP_advS hz hl (blkP_advS hz hl) 150 _ k1 (by omega);rw[sum_lays,sum_blks,sum_ints (listP (parI zs) ((parI zs).nm 4) 5 (listP (parI zs) (layP (parI zs)) 20 p).2).1];omega
theorem infoTys:(Tryz.prog.info? 43).map (fun i=>(i.zero,i.size,i.bytes))=some (some (.slice none 0 0),1,24):=by kernel_rfl
theorem infoLay:(Tryz.prog.info? 42).map (fun i=>(i.zero,i.size,i.bytes))=some (some (.agg #[.slice none 0 0]),1,24):=by kernel_rfl
theorem infoInt:(Tryz.prog.info? 3).map (fun i=>(i.zero,i.size,i.bytes))=some (some (.int .i64 0),1,8):=by kernel_rfl
theorem infoIns:(Tryz.prog.info? 52).map (fun i=>(i.zero,i.size,i.bytes))=some (some (.agg #[.int .i64 0,.int .i64 0,.int .i64 0,.slice none 0 0,.slice none 0 0]),5,72):=by kernel_rfl
theorem infoBlk:(Tryz.prog.info? 49).map (fun i=>(i.zero,i.size,i.bytes))=some (some (.agg #[.slice none 0 0,.int .i64 0,.int .i64 0,.slice none 0 0,.int .i64 0,.int .i64 0,.slice none 0 0,.slice none 0 0,.slice none 0 0]),9,152):=by kernel_rfl
theorem specGetT (g n:Nat) (zs:List Int) (p:Int) (w:World) (h:Row w g n zs) (hl:zs.length=n) (hz:Byt zs) (hn:n≤1048576) (hp:p≤9223372036854775807) :
  Calls Tryz.prog 33 #[.slice (some ⟨g,0,none⟩) n n,.int .i64 p] w fun e w'=>∃ v x,e = .returned (.tuple #[v,.int .i64 x])∧w.grownBy w' none∧Ans w w' (getText zs p) v x:=by
 have hG:=specGet (some ⟨g,0,none⟩) n n zs p w (h.reads' hl) hz (by omega) hp;have hb:=getNum_bounds zs hz p;unfold getText;obtain ⟨k,q,hkq⟩:∃ k q,getNum zs p=(k,q):=⟨_,_,rfl⟩;rw[hkq] at hG hb ⊢;simp only at hG hb ⊢;clear hkq;by_cases hbad:q < 0∨40 < k∨(zs.length:Int) - q < k
 ·
  rw[if_pos hbad];go_enter Tryz.func33,Tryz.ntmps33;go_wp2_with fail;refine hG.mono ?_;rintro e w1 ⟨rfl,hq1⟩;have hg1:=quiet hq1;have HG1:Hid (w.grownBy w1 none):=hg1;clear hG hq1 hg1 hz h;rcases (show q < 0∨(0≤q∧40 < k)∨(0≤q∧k≤40∧(n:Int) - q < k) by omega) with h1|⟨h1,h2⟩|⟨h1,h2,h3⟩
  ·
   have hq:q = -1:=by
    rcases hb with hb|hb
    ·
     exact (Prod.mk.inj hb).2
    ·
     omega
   clear hb hbad;go_wp2;go_ret2;exact ⟨_,_,rfl,HG1.out,rfl,rfl⟩
  ·
   clear hbad;go_wp2;go_ret2;exact ⟨_,_,rfl,HG1.out,rfl,rfl⟩
  ·
   have hq2:q≤n:=by
    rcases hb with hb|hb
    ·
     have:=(Prod.mk.inj hb).2;omega
    ·
     omega
   clear hb hbad;go_wp2;go_ret2;exact ⟨_,_,rfl,HG1.out,rfl,rfl⟩
 ·
  rw[if_neg hbad];obtain ⟨k',rfl⟩:∃ k':Nat,k=k':=⟨k.toNat,by rcases hb with hb|hb <;> first|omega | (have:=(Prod.mk.inj hb).2;omega)⟩;obtain ⟨q',rfl⟩:∃ q':Nat,q=q':=⟨q.toNat,by omega⟩
  have hk40:k'≤40:=by omega
  have hqk:q' + k'≤n:=by omega
  rw[Int.toNat_natCast,Int.toNat_natCast];clear hb hbad;have hml:=cut_len zs q' k' (by omega)
  have hcr:=fun w (h:Row w g n zs)=>cut_reads h q' k' (by omega)
  generalize (zs.drop q').take k' = ts at *;obtain ⟨i0,hi,hz0,hz1,hz2⟩:=info_parts info5;have HV:Hid (∀ v ∈ vals ts,v.oneCell' = true):=vals_one ts
  have HT:Hid ((vals ts).length=k' * 1):=by show _=_;simp [vals,hml]
  have HML:Hid (ts.length=k'):=hml;have HCR:Hid (∀ w,Row w g n zs→∀ i,i < k'→w.cell? ⟨g,q' + i,none⟩=some (.int .u8 (ts.getD i 0))):=hcr;have H:Hid (Row w g n zs):=h
  have C1:Hid (0+k'≤maxLen):=by show _≤_;unfold maxLen;omega
  have C2:Hid ((0+k') * 1≤140737488355328):=by show _≤_;omega
  clear hml hcr h hl hz;go_enter Tryz.func33,Tryz.ntmps33;go_wp2_with fail;refine hG.mono ?_;rintro e w1 ⟨rfl,hq1⟩;have hg1:=quiet hq1;have HG1:Hid (w.grownBy w1 none):=hg1;have HO:Hid ((w1.alloc (.cells #[] 5)).ownsRow w1.heap.size 5 1 (.slice (some ⟨w1.heap.size,0,none⟩) 0 0) 0 []):=World.ownsRow_made w1 #[] 0 (Nat.le_refl _) (Nat.zero_le _) rfl;have HB1:Hid (Below w1.heap.size w1 (w1.alloc (.cells #[] 5))):=(Below.refl _ _).alloc (Nat.le_refl _) _;have HSRC:Hid (∀ i,i < k'→(w1.alloc (.cells #[] 5)).cell? ⟨g,q' + i,none⟩=some (.int .u8 (ts.getD i 0))):=HCR.out _ ((H.out.kept hg1 (by simp)).kept (gal w1 (.cells #[] 5) none) (by simp));clear hG hq1 hg1
  have ES0:Hid (Value.slice (some ⟨g,0,none⟩) (q' + k' - q') 0 = .slice (some ⟨g,0,none⟩) k' 0):=by show _=_;rw[show q' + k' - q' = k' by omega]
  have ES:Hid (Value.slice (some ⟨g,q',none⟩) (q' + k' - q') (n - q') = .slice (some ⟨g,q',none⟩) k' (n - q')):=by show _=_;rw[show q' + k' - q' = k' by omega]
  have fin:∀ (v:Value) (w2:World),w2.ownsRow w1.heap.size 5 1 v (0+k') ([]++vals ts)→(w1.alloc (.cells #[] 5)).grownBy w2 (some w1.heap.size)→(v = .slice none 0 0 ↔ Value.slice (some ⟨w1.heap.size,0,none⟩) 0 0 = .slice none 0 0∧k' = 0) →
    ∃ v' x',Ending.returned (.tuple #[v,.int .i64 ((q':Int)+k')]) = .returned (.tuple #[v',.int .i64 x'])∧w.grownBy w2 none∧Ans w w2 (some (ts,(q':Int)+k')) v' x':=by
   intro v w2 ho hg hnil;have hb:Below w1.heap.size w1 w2:=HB1.out.grown hg (by simp) (by simp)
   have ho':w2.ownsRow w1.heap.size 5 1 v k' (vals ts):=by simpa using ho
   obtain ⟨g',cp,rfl,hB,hrow,hlen,hcp⟩:=row_own ho' (by intro e;have hh:=(hnil.1 e).1;injection hh with h1;cases h1);exact ⟨_,_,rfl,gtr HG1.out (grown_of_below hb),g',cp,by rw[hlen],rfl,Nat.le_trans HG1.out.size hB,hrow⟩
  have FIN:Hid (∀ (v:Value) (w2:World),w2.ownsRow w1.heap.size 5 1 v (0+k') ([]++vals ts)→(w1.alloc (.cells #[] 5)).grownBy w2 (some w1.heap.size)→(v = .slice none 0 0 ↔ Value.slice (some ⟨w1.heap.size,0,none⟩) 0 0 = .slice none 0 0∧k' = 0) →
    ∃ v' x',Ending.returned (.tuple #[v,.int .i64 ((q':Int)+k')]) = .returned (.tuple #[v',.int .i64 x'])∧w.grownBy w2 none∧Ans w w2 (some (ts,(q':Int)+k')) v' x'):=fin
  clear fin;have D2:Hid (∀ j u,(vals ts)[j]? = some u→(w1.alloc (.cells #[] 5)).cell? ((⟨g,q',none⟩:Addr).add j)=some u):=vals_get HML.out HSRC.out;by_cases hnq:n=q'
  ·
   have hk0:k' = 0:=by omega
   have D1:Hid (∀ j u,(vals ts)[j]? = some u→(w1.alloc (.cells #[] 5)).cell? ((⟨g,0,none⟩:Addr).add j)=some u):=by
    intro j u hj;have h1:=(List.getElem?_eq_some_iff.1 hj).1;have:=HT.out;omega
   have HK0:Hid (k' = 0):=hk0;clear hk0;go_wp2_with (at_builtin;go_must (refine wpList_append_own _ rfl (.tmp 28) (.tmp 34) 22 rfl w1.heap.size 5 i0 (.int .u8 0) 1 1 Tryz.underlying22 hi hz0 hz1 hz2 rfl (by decide) (.slice (some ⟨w1.heap.size,0,none⟩) 0 0) 0 [] rfl HO.out ⟨g,0,none⟩ k' 0 (vals ts) ES0.out HT.out D1.out HV.out C1.out C2.out (by simp) ?_);intro v2 w2 hown2 hgrow2 hnil2);go_ret2;exact FIN.out v2 w2 hown2 hgrow2 hnil2
  ·
   go_wp2_with (at_builtin;go_must (refine wpList_append_own _ rfl (.tmp 28) (.tmp 34) 22 rfl w1.heap.size 5 i0 (.int .u8 0) 1 1 Tryz.underlying22 hi hz0 hz1 hz2 rfl (by decide) (.slice (some ⟨w1.heap.size,0,none⟩) 0 0) 0 [] rfl HO.out ⟨g,q',none⟩ k' (n - q') (vals ts) ES.out HT.out D2.out HV.out C1.out C2.out (by simp) ?_);intro v2 w2 hown2 hgrow2 hnil2);go_ret2;exact FIN.out v2 w2 hown2 hgrow2 hnil2
def SCd (w:World) (q g N:Nat) (p:Int):Prop:=w.heap[q]? = some (.cells #[.slice (some ⟨g,0,none⟩) N N,.int .i64 p] 38 (0,0))
theorem SCd.old {w u:World} {q g N:Nat} {p:Int} (h:SCd w q g N p) (hg:w.grownBy u none):SCd u q g N p:=(hg.block _ (lbk h) (by simp)).trans h
theorem SCd.put {w:World} {q g N:Nat} {p:Int} (h:SCd w q g N p) (x:Int):SCd (w.setCell ⟨q,1,none⟩ (.int .i64 x)) q g N x:=hsm w q 1 _ _ _ h
def OwnS (w u:World) (q g N:Nat) (p:Int) (vs:List Value) (X:G):Prop :=
 w.grownBy u (some q)∧SCd u q g N p∧∃ bs,VsG u vs X bs∧bs.Nodup∧∀ y ∈ bs,w.heap.size≤y
theorem l8numT (q g N:Nat) (zs:List Int) (most p:Int) (w:World) (hB:Byq w q g N zs) (b:SCd w q g N p) (hp:p≤9223372036854775807) :
  Calls Tryz.prog 12 #[.pointer (some ⟨q,0,none⟩),.int .i64 most] w fun e u=>e = .returned (.int .i64 ((parS zs).nm most p).1)∧w.grownBy u (some q)∧SCd u q g N ((parS zs).nm most p).2:=by
 have HB:Hid _:=b;by_cases hneg:p < 0
 ·
  have HE:Hid ((parS zs).nm most p=(0,p)):=by show _=_;simp only[parS];rw[if_pos hneg]
  obtain ⟨⟨z0,z1⟩,h0,h3⟩:=two b;clear hB b;go_enter Tryz.func12,Tryz.ntmps12;go_wp2;go_ret;rw[HE.out];exact ⟨rfl,grf _ _,HB.out⟩
 have HE0:Hid ((parS zs).nm most p=if (getNum zs p).2 < 0∨most < (getNum zs p).1 then (0,-1) else getNum zs p):=by show _=_;simp only[parS];rw[if_neg hneg]
 have CC:Hid _:=fun u (hu:w.grownBy u none)=>specGet2 (some ⟨g,0,none⟩) N N zs p u ((hB.old hu).1.reads' hB.2.1) hB.2.2.1 (by have:=hB.2.2.2.1;omega) hp
 have hb:=getNum_bounds zs hB.2.2.1 p;obtain ⟨⟨z0,z1⟩,h0,h3⟩:=two b;clear hB b;go_enter Tryz.func12,Tryz.ntmps12;go_wp2_with fail;have L1:Hid (w.grownBy w.drew none∧SCd w.drew q g N p):=⟨grown_drew (grf w none),SCd.old HB.out (grown_drew (grf w none))⟩;refine wp_region_held_drew (S:=(fun u0=>u0.cell? ⟨q,0,none⟩=some (.slice (some ⟨g,0,none⟩) N N)∧u0.cell? ⟨q,1,none⟩=some (.int .i64 p))) (by kernel_rfl) (two L1.out.2).1 (fun hH=>?_);generalize w.drew=u0 at *;simp only[sA9,lB,lC,Nat.reduceAdd,Array.replicate,List.replicate];refine tk 0 ?_;refine tk 1 ?_;refine tk 2 ?_;refine tk 3 ?_;refine tk 4 ?_;refine tk 5 ?_;refine tk 6 ?_;refine tk 7 ?_;refine rd 8 rfl (fun K hK=>?_);go_simp;refine Calls.mono (CC.out u0 L1.out.1) ?_;rintro e u ⟨rfl,hg⟩;have b1:=SCd.old L1.out.2 hg;have LQ:Hid (w.grownBy u none∧SCd u q g N p):=⟨gtr L1.out.1 hg,b1⟩;refine hK.out _ _ (two b1).1 (fun hH2=>?_);clear hK K hH
 have hH:=hH2;clear hH2 hg L1 b1 CC HB z0 z1 h0 h3;obtain ⟨n,r,hn⟩:∃ n r,getNum zs p=(n,r):=⟨_,_,rfl⟩;rw[hn] at hb HE0;rw[hn];clear hn;simp only[] at hb HE0 ⊢;simp only[Act.put,nA,nB,nC,nD,nE,nF];refine tk 9 ?_;refine tk 10 ?_;refine tk 11 ?_;refine tk 12 ?_;refine tk 13 ?_;refine wpAnyH_done (by kernel_rfl) ?_ _;clear hH;have ks:=gsc u q 1 (.int .i64 (-1));have ks2:=gsc u q 1 (.int .i64 r);have FN:Hid (SCd (u.setCell ⟨q,1,none⟩ (.int .i64 (-1))) q g N (-1)∧w.grownBy (u.setCell ⟨q,1,none⟩ (.int .i64 (-1))) (some q)):=⟨LQ.out.2.put _,gtr (wide_none LQ.out.1 (some q)) ks⟩;have FQ:Hid (SCd (u.setCell ⟨q,1,none⟩ (.int .i64 r)) q g N r∧w.grownBy (u.setCell ⟨q,1,none⟩ (.int .i64 r)) (some q)):=⟨LQ.out.2.put _,gtr (wide_none LQ.out.1 (some q)) ks2⟩;obtain ⟨⟨z0,z1⟩,h0,h3⟩:=two LQ.out.2;clear LQ ks ks2;by_cases hr:r < 0
 ·
  have HE:Hid ((parS zs).nm most p=(0,-1)):=by show _=_;rw[HE0.out,if_pos (.inl hr)]
  clear HE0 hb;go_wp2;go_ret;rw[HE.out];exact ⟨rfl,FN.out.2,FN.out.1⟩
 ·
  have hn0:0≤n:=by
   rcases hb with h|h
   ·
    injection h with h1 h2;omega
   ·
    exact h.1
  clear hb;by_cases hm:most < n
  ·
   have HE:Hid ((parS zs).nm most p=(0,-1)):=by show _=_;rw[HE0.out,if_pos (.inr hm)]
   clear HE0;go_wp2;go_ret;rw[HE.out];exact ⟨rfl,FN.out.2,FN.out.1⟩
  ·
   have HE:Hid ((parS zs).nm most p=(n,r)):=by show _=_;rw[HE0.out,if_neg (by omega)]
   clear HE0;go_wp2;go_ret;rw[HE.out];exact ⟨rfl,FQ.out.2,FQ.out.1⟩
def TyAS (w u:World) (q g N:Nat) (R:(Int × Int × F) × Int) (e:Ending):Prop :=
 ∃ a l c,e = .returned (.agg #[.int .i64 R.1.1,.int .i64 R.1.2.1,.slice a l c])∧OwnS w u q g N R.2 [.int .i64 R.1.1,.int .i64 R.1.2.1,.slice a l c] (.num .i64 R.1.1 (.num .i64 R.1.2.1 (.sl 3 (encF R.1.2.2) .nil)))
theorem l8typeT (q g N:Nat) (zs:List Int) (p:Int) (w:World) (hB:Byq w q g N zs) (b:SCd w q g N p) (hp:p≤9223372036854775807) :
  Calls Tryz.prog 14 #[.pointer (some ⟨q,0,none⟩)] w fun e u=>TyAS w u q g N (tyP (parS zs) p) e:=by
 by_cases hneg:p < 0
 ·
  have HE:Hid (tyP (parS zs) p=((0,0,.nil),p)):=by show _=_;simp only[tyP,parS];rw[if_pos hneg]
  have g0:=gal w (.cells #[.int .i64 0,.int .i64 0,.slice none 0 0] 46) none;have b0:=hnw w (.cells #[.int .i64 0,.int .i64 0,.slice none 0 0] 46);have bq:=SCd.old b g0;have hq:=lbk b;have FQ:Hid (_∧w.grownBy _ (some q)∧SCd _ q g N p):=⟨b0,wide_none g0 _,bq⟩;obtain ⟨⟨z0,z1⟩,h0,h3⟩:=two bq;obtain ⟨⟨y0,y1,y2⟩,f0,f1,f2⟩:=three b0;clear hB b bq hq g0 b0;go_enter Tryz.func14,Tryz.ntmps14;go_wp2
  (try simp only[Exit.inBlock,Exit.then])
  refine bodyPost_ret (results_cell_row (P:=Tryz.prog) Tryz.results14 _ _ w.heap.size _ _ _ _ rfl FQ.out.1 Tryz.underlying46 rfl (by kernel_rfl)) rfl ?_;rw[HE.out];exact ⟨none,0,0,rfl,FQ.out.2.1,FQ.out.2.2,[],⟨rfl,rfl,[],[],none,0,0,rfl,rfl,SlG.nil _ _ _ _,rfl⟩,List.nodup_nil,fun y hy=>by simp at hy⟩
 have HNG:Hid (¬ p < 0):=hneg;have g0:w.grownBy (w.alloc (.cells #[.int .i64 0,.int .i64 0,.slice none 0 0] 46)) none:=gal _ _ _
 have CC:Hid _:=fun u (hu:w.grownBy u none)=>specTyReadT (some ⟨g,0,none⟩) N N zs hB.2.2.1 (by have:=hB.2.2.2.1;omega) p u ((hB.old hu).1.reads' hB.2.1) hp
 have PQ:Hid (q < w.heap.size):=lbk b;have gd:=grown_drew g0;have L1:Hid (w.grownBy (w.alloc (.cells #[.int .i64 0,.int .i64 0,.slice none 0 0] 46)).drew none∧SCd (w.alloc (.cells #[.int .i64 0,.int .i64 0,.slice none 0 0] 46)).drew q g N p∧(w.alloc (.cells #[.int .i64 0,.int .i64 0,.slice none 0 0] 46)).drew.heap[w.heap.size]? = some (.cells #[.int .i64 0,.int .i64 0,.slice none 0 0] 46)):=⟨gd,SCd.old b gd,hnw w _⟩;have b1:=SCd.old b g0;obtain ⟨⟨z0,z1⟩,h0,h3⟩:=two b1;clear hB b b1 g0 gd;go_enter Tryz.func14,Tryz.ntmps14;go_wp2_with fail;generalize e2:w.heap.size=q2 at *;have PE:Hid (w.heap.size=q2):=e2;clear e2;refine wp_region_held_drew (S:=(fun u0=>u0.cell? ⟨q,0,none⟩=some (.slice (some ⟨g,0,none⟩) N N)∧u0.cell? ⟨q,1,none⟩=some (.int .i64 p))) (by kernel_rfl) (two L1.out.2.1).1 (fun hH=>?_);generalize (World.drew _)=u0 at *;simp only[sA9,lB,lC,Nat.reduceAdd,Array.replicate,List.replicate]
 refine tk 0 ?_;refine tk 1 ?_;refine tk 2 ?_;refine tk 3 ?_;refine tk 4 ?_;refine tk 5 ?_;refine tk 6 ?_;refine tk 7 ?_;refine wpAnyH_ready (rs:=[8,12]) (by kernel_rfl) (by simp) ?_;refine AllReadyH.cons rfl (fun K hK=>?_) ?_
 ·
  skip
  go_simp;refine Calls.mono (CC.out u0 L1.out.1) ?_;rintro e u ⟨a,l,c,bs,rfl,hg,hN⟩;have b1:=SCd.old L1.out.2.1 hg;have LQ:Hid (w.grownBy u none∧SCd u q g N p∧u.heap[q2]? = some (.cells #[.int .i64 0,.int .i64 0,.slice none 0 0] 46)∧SlG u 3 a l c (encF (readV zs p).2.2.1) bs∧bs.Nodup∧∀ y ∈ bs,q2 < y):=⟨gtr L1.out.1 hg,b1,(hg.block _ (lbk L1.out.2.2) (by simp)).trans L1.out.2.2,hN.1.toG,hN.2.1,fun y hy=>by have:=hN.2.2 y hy;have:=lbk L1.out.2.2;omega⟩;refine hK.out _ _ (two b1).1 (fun hH2=>?_);clear hK K hH;have hH:=hH2;clear hH2 hg L1 b1 CC z0 z1 h0 h3 hN;obtain ⟨k,n,f,x,hR⟩:∃ k n f x,readV zs p=(k,n,f,x):=⟨_,_,_,_,rfl⟩
  have HR:Hid (tyP (parS zs) p=((k,n,f),x)):=by show tyP (parS zs) p=_;have e0:(parS zs).ty p=readV zs p:=(by simp only[parS];rw[if_neg (by have:=HNG.out;omega)]);unfold tyP;rw[e0,hR]
  rw[hR] at LQ;rw[hR];simp only[] at LQ ⊢;clear hR;simp only[Act.put,nA,nB,nC,nD,nE,nF];refine tk 9 ?_;refine tk 10 ?_;refine tk 11 ?_;have ga:=gal u (.cells #[.int .i64 0,.int .i64 0,.slice none 0 0] 46) none;have LF:Hid (w.grownBy (u.alloc (.cells #[.int .i64 0,.int .i64 0,.slice none 0 0] 46)) none∧SCd (u.alloc (.cells #[.int .i64 0,.int .i64 0,.slice none 0 0] 46)) q g N p∧(u.alloc (.cells #[.int .i64 0,.int .i64 0,.slice none 0 0] 46)).heap[q2]? = some (.cells #[.int .i64 0,.int .i64 0,.slice none 0 0] 46)∧(u.alloc (.cells #[.int .i64 0,.int .i64 0,.slice none 0 0] 46)).heap[u.heap.size]? = some (.cells #[.int .i64 0,.int .i64 0,.slice none 0 0] 46)∧SlG (u.alloc (.cells #[.int .i64 0,.int .i64 0,.slice none 0 0] 46)) 3 a l c (encF f) bs∧bs.Nodup∧(∀ y ∈ bs,q2 < y∧y≠u.heap.size)∧q2 < u.heap.size):=⟨gtr LQ.out.1 ga,SCd.old LQ.out.2.1 ga,(ga.block _ (lbk LQ.out.2.2.1) (by simp)).trans LQ.out.2.2.1,hnw u _,LQ.out.2.2.2.1.old ga,LQ.out.2.2.2.2.1,fun y hy=>⟨LQ.out.2.2.2.2.2 y hy,by have:=LQ.out.2.2.2.1.lt y hy;omega⟩,lbk LQ.out.2.2.1⟩
  refine rd 12 rfl (fun K hK=>?_);go_simp;refine hK.out _ _ (two LF.out.2.1).1 (fun hH2=>?_);clear hK K hH;have hH:=hH2;clear hH2 ga LQ;simp only[Act.put,nA,nB,nC,nD,nE,nF];generalize u.alloc (.cells #[.int .i64 0,.int .i64 0,.slice none 0 0] 46)=v at *;generalize u.heap.size=q3 at *;obtain ⟨d1,k1⟩:=fill3 (.int .i64 k) (.int .i64 n) (.slice a l c) LF.out.2.2.2.1;obtain ⟨⟨y0,y1,y2⟩,f0,f1,f2⟩:=three LF.out.2.2.2.1;have LG:Hid (w.grownBy _ none∧SCd _ q g N p∧_∧_∧SlG _ 3 a l c (encF f) bs):=⟨grown_into LF.out.1 k1 (by have:=PE.out;have:=LF.out.2.2.2.2.2.2.2;omega),(k1.block _ (lbk LF.out.2.1) (by have:=PE.out;have:=PQ.out;have:=LF.out.2.2.2.2.2.2.2;simp;omega)).trans LF.out.2.1,(k1.block _ (lbk LF.out.2.2.1) (by have:=LF.out.2.2.2.2.2.2.2;simp;omega)).trans LF.out.2.2.1,d1,LF.out.2.2.2.2.1.kept k1 (fun y hy=>by have:=(LF.out.2.2.2.2.2.2.1 y hy).2;simpa using this)⟩;have LR:Hid (bs.Nodup∧(∀ y ∈ bs,q2 < y∧y≠q3)∧q2 < q3):=⟨LF.out.2.2.2.2.2.1,LF.out.2.2.2.2.2.2.1,LF.out.2.2.2.2.2.2.2⟩
  clear d1 k1 LF;refine rd 13 rfl (fun K hK=>?_);go_simp;refine hK.out _ _ (two LG.out.2.1).1 (fun hH2=>?_);clear hK K hH;have hH:=hH2;clear hH2 y0 y1 y2 f0 f1 f2;simp only[Act.put,nA,nB,nC,nD,nE,nF];refine tk 14 ?_;refine wpAnyH_done (by kernel_rfl) ?_ _;generalize (((v.setCell ⟨q3,0,none⟩ (.int .i64 k)).setCell ⟨q3,1,none⟩ (.int .i64 n)).setCell ⟨q3,2,none⟩ (.slice a l c))=v3 at *;have ks:=gsc v3 q 1 (.int .i64 x);have e2:(v3.setCell ⟨q,1,none⟩ (.int .i64 x)).heap[q2]? = _:=(ks.block _ (lbk LG.out.2.2.1) (by have:=PE.out;have:=PQ.out;simp;omega)).trans LG.out.2.2.1;have e3:(v3.setCell ⟨q,1,none⟩ (.int .i64 x)).heap[q3]? = _:=(ks.block _ (lbk LG.out.2.2.2.1) (by have:=PE.out;have:=PQ.out;have:=LR.out.2.2;simp;omega)).trans LG.out.2.2.2.1;obtain ⟨d2,k2⟩:=fill3 (.int .i64 k) (.int .i64 n) (.slice a l c) e2;have gq:w.grownBy (v3.setCell ⟨q,1,none⟩ (.int .i64 x)) (some q):=gtr (wide_none LG.out.1 (some q)) ks
  have hc:=SCd.put LG.out.2.1 x;have FQ:Hid (_∧w.grownBy _ (some q)∧SCd _ q g N x∧SlG _ 3 a l c (encF f) bs):=⟨d2,grown_intoR gq k2 (by have:=PE.out;omega),(k2.block _ (lbk hc) (by have:=PE.out;have:=PQ.out;simp;omega)).trans hc,(LG.out.2.2.2.2.kept ks (fun y hy=>by have:=(LR.out.2.1 y hy).1;have:=PE.out;have:=PQ.out;simp;omega)).kept k2 (fun y hy=>by have:=(LR.out.2.1 y hy).1;simp;omega)⟩;obtain ⟨⟨z0,z1⟩,h0,h3⟩:=two LG.out.2.1;obtain ⟨⟨y0,y1,y2⟩,f0,f1,f2⟩:=three e2;obtain ⟨⟨x0,x1,x2⟩,-⟩:=three e3;clear ks e2 e3 d2 k2 gq hc LG;go_wp2
  (try simp only[Exit.inBlock,Exit.then])
  refine bodyPost_ret (results_cell_row (P:=Tryz.prog) Tryz.results14 _ _ q2 _ _ _ _ rfl FQ.out.1 Tryz.underlying46 rfl (by kernel_rfl)) rfl ?_;rw[HR.out];exact ⟨a,l,c,rfl,FQ.out.2.1,FQ.out.2.2.1,bs,⟨rfl,rfl,bs,[],a,l,c,by simp,rfl,FQ.out.2.2.2,rfl⟩,LR.out.1,fun y hy=>by have:=(LR.out.2.1 y hy).1;have:=PE.out;omega⟩
 refine AllReadyH.cons rfl (fun K hK=>?_) AllReadyH.nil;go_simp;have ga:=gal u0 (.cells #[.int .i64 0,.int .i64 0,.slice none 0 0] 46) none;have L2:Hid (w.grownBy (u0.alloc (.cells #[.int .i64 0,.int .i64 0,.slice none 0 0] 46)) none∧SCd (u0.alloc (.cells #[.int .i64 0,.int .i64 0,.slice none 0 0] 46)) q g N p∧(u0.alloc (.cells #[.int .i64 0,.int .i64 0,.slice none 0 0] 46)).heap[q2]? = some (.cells #[.int .i64 0,.int .i64 0,.slice none 0 0] 46)∧(u0.alloc (.cells #[.int .i64 0,.int .i64 0,.slice none 0 0] 46)).heap[u0.heap.size]? = some (.cells #[.int .i64 0,.int .i64 0,.slice none 0 0] 46)∧q2 < u0.heap.size):=⟨gtr L1.out.1 ga,SCd.old L1.out.2.1 ga,(ga.block _ (lbk L1.out.2.2) (by simp)).trans L1.out.2.2,hnw u0 _,lbk L1.out.2.2⟩;refine hK.out _ _ (two L2.out.2.1).1 (fun hH2=>?_);clear hK K hH;have hH:=hH2;clear hH2 ga L1 z0 z1 h0 h3;simp only[Act.put,nA,nB,nC,nD,nE,nF];generalize u0.alloc (.cells #[.int .i64 0,.int .i64 0,.slice none 0 0] 46)=u1 at *
 generalize u0.heap.size=q3 at *;refine rd 8 rfl (fun K hK=>?_);go_simp;refine Calls.mono (CC.out u1 L2.out.1) ?_;rintro e v ⟨a,l,c,bs,rfl,hg,hN⟩;have b1:=SCd.old L2.out.2.1 hg;refine hK.out _ _ (two b1).1 (fun hH2=>?_);clear hK K hH;have hH:=hH2;clear hH2 CC;have LF0:Hid (w.grownBy v none∧SCd v q g N p∧v.heap[q2]? = some (.cells #[.int .i64 0,.int .i64 0,.slice none 0 0] 46)∧v.heap[q3]? = some (.cells #[.int .i64 0,.int .i64 0,.slice none 0 0] 46)∧SlG v 3 a l c (encF (readV zs p).2.2.1) bs∧bs.Nodup∧(∀ y ∈ bs,q2 < y∧y≠q3)∧q2 < q3):=⟨gtr L2.out.1 hg,b1,(hg.block _ (lbk L2.out.2.2.1) (by simp)).trans L2.out.2.2.1,(hg.block _ (lbk L2.out.2.2.2.1) (by simp)).trans L2.out.2.2.2.1,hN.1.toG,hN.2.1,fun y hy=>by have:=hN.2.2 y hy;have:=lbk L2.out.2.2.2.1;have:=L2.out.2.2.2.2;omega,L2.out.2.2.2.2⟩;clear hg b1 hN L2;obtain ⟨k,n,f,x,hR⟩:∃ k n f x,readV zs p=(k,n,f,x):=⟨_,_,_,_,rfl⟩
 have HR:Hid (tyP (parS zs) p=((k,n,f),x)):=by show tyP (parS zs) p=_;have e0:(parS zs).ty p=readV zs p:=(by simp only[parS];rw[if_neg (by have:=HNG.out;omega)]);unfold tyP;rw[e0,hR]
 rw[hR] at LF0;rw[hR];have LF:Hid (_∧_∧_∧_∧SlG v 3 a l c (encF f) bs∧_∧_∧_):=LF0;clear LF0;simp only[];clear hR;simp only[Act.put,nA,nB,nC,nD,nE,nF];refine tk 9 ?_;refine tk 10 ?_;refine tk 11 ?_;obtain ⟨d1,k1⟩:=fill3 (.int .i64 k) (.int .i64 n) (.slice a l c) LF.out.2.2.2.1;obtain ⟨⟨y0,y1,y2⟩,f0,f1,f2⟩:=three LF.out.2.2.2.1;have LG:Hid (w.grownBy _ none∧SCd _ q g N p∧_∧_∧SlG _ 3 a l c (encF f) bs):=⟨grown_into LF.out.1 k1 (by have:=PE.out;have:=LF.out.2.2.2.2.2.2.2;omega),(k1.block _ (lbk LF.out.2.1) (by have:=PE.out;have:=PQ.out;have:=LF.out.2.2.2.2.2.2.2;simp;omega)).trans LF.out.2.1,(k1.block _ (lbk LF.out.2.2.1) (by have:=LF.out.2.2.2.2.2.2.2;simp;omega)).trans LF.out.2.2.1,d1,LF.out.2.2.2.2.1.kept k1 (fun y hy=>by have:=(LF.out.2.2.2.2.2.2.1 y hy).2;simpa using this)⟩;have LR:Hid (bs.Nodup∧(∀ y ∈ bs,q2 < y∧y≠q3)∧q2 < q3):=⟨LF.out.2.2.2.2.2.1,LF.out.2.2.2.2.2.2.1,LF.out.2.2.2.2.2.2.2⟩
 clear d1 k1 LF;refine rd 13 rfl (fun K hK=>?_);go_simp;refine hK.out _ _ (two LG.out.2.1).1 (fun hH2=>?_);clear hK K hH;have hH:=hH2;clear hH2 y0 y1 y2 f0 f1 f2;simp only[Act.put,nA,nB,nC,nD,nE,nF];refine tk 14 ?_;refine wpAnyH_done (by kernel_rfl) ?_ _;generalize (((v.setCell ⟨q3,0,none⟩ (.int .i64 k)).setCell ⟨q3,1,none⟩ (.int .i64 n)).setCell ⟨q3,2,none⟩ (.slice a l c))=v3 at *;have ks:=gsc v3 q 1 (.int .i64 x);have e2:(v3.setCell ⟨q,1,none⟩ (.int .i64 x)).heap[q2]? = _:=(ks.block _ (lbk LG.out.2.2.1) (by have:=PE.out;have:=PQ.out;simp;omega)).trans LG.out.2.2.1;have e3:(v3.setCell ⟨q,1,none⟩ (.int .i64 x)).heap[q3]? = _:=(ks.block _ (lbk LG.out.2.2.2.1) (by have:=PE.out;have:=PQ.out;have:=LR.out.2.2;simp;omega)).trans LG.out.2.2.2.1;obtain ⟨d2,k2⟩:=fill3 (.int .i64 k) (.int .i64 n) (.slice a l c) e2;have gq:w.grownBy (v3.setCell ⟨q,1,none⟩ (.int .i64 x)) (some q):=gtr (wide_none LG.out.1 (some q)) ks
 have hc:=SCd.put LG.out.2.1 x;have FQ:Hid (_∧w.grownBy _ (some q)∧SCd _ q g N x∧SlG _ 3 a l c (encF f) bs):=⟨d2,grown_intoR gq k2 (by have:=PE.out;omega),(k2.block _ (lbk hc) (by have:=PE.out;have:=PQ.out;simp;omega)).trans hc,(LG.out.2.2.2.2.kept ks (fun y hy=>by have:=(LR.out.2.1 y hy).1;have:=PE.out;have:=PQ.out;simp;omega)).kept k2 (fun y hy=>by have:=(LR.out.2.1 y hy).1;simp;omega)⟩;obtain ⟨⟨z0,z1⟩,h0,h3⟩:=two LG.out.2.1;obtain ⟨⟨y0,y1,y2⟩,f0,f1,f2⟩:=three e2;obtain ⟨⟨x0,x1,x2⟩,-⟩:=three e3;clear ks e2 e3 d2 k2 gq hc LG;go_wp2
 (try simp only[Exit.inBlock,Exit.then])
 refine bodyPost_ret (results_cell_row (P:=Tryz.prog) Tryz.results14 _ _ q2 _ _ _ _ rfl FQ.out.1 Tryz.underlying46 rfl (by kernel_rfl)) rfl ?_;rw[HR.out];exact ⟨a,l,c,rfl,FQ.out.2.1,FQ.out.2.2.1,bs,⟨rfl,rfl,bs,[],a,l,c,by simp,rfl,FQ.out.2.2.2,rfl⟩,LR.out.1,fun y hy=>by have:=(LR.out.2.1 y hy).1;have:=PE.out;omega⟩
end Go.Proofs.YtnmlbeefjjohfaaGreatDoor.By
