/-
  No statement is proved here.
-/
import Derived.Test.YtnmlbeefjjohfaaGreatDoorTOkAlsoSh
namespace Go.Proofs.YtnmlbeefjjohfaaGreatDoor.By
set_option maxRecDepth 100000
set_option maxHeartbeats 16000000
open Go.RowKit
set_option linter.unusedVariables false
def hdN (zs:List Int) (k at':Int):Option (Int × Int × Nat × Int) :=
  if k=0∨k=1∨k=2 then some (k,0,0,at')
  else if k=3∨k=4 then some (k,0,2,at')
  else if k=5 then some (5,0,1,at')
  else if k=7 then (if (getNum zs at').2 < 0 then none else some (7,(getNum zs at').1,0,(getNum zs at').2))
  else if k=6 then
    (if (getNum zs at').2 < 0 then none
     else if (getNum zs (getNum zs at').2).2 < 0∨3 < (getNum zs (getNum zs at').2).1 then none
     else some (6,(getNum zs at').1,(getNum zs (getNum zs at').2).1.toNat,(getNum zs (getNum zs at').2).2))
  else none
def hd (zs:List Int) (p:Int):Option (Int × Int × Nat × Int):=if p < 0∨(zs.length:Int)≤p then none else hdN zs (zs.getD p.toNat 0) (p+1)
def rdL (g:Int→Option (Int × Int × F × Int)):Nat→Int→Option (F × Int)
 | 0,p=>some (.nil,p)
 | c+1,p=>match g p with
  | none=>none
  | some x=>match rdL g c x.2.2.2 with
   | none=>none
   | some y=>some (.cons x.1 x.2.1 x.2.2.1 y.1,y.2)
def rdT (zs:List Int):Nat→Int→Option (Int × Int × F × Int)
 | 0,_=>none
 | d+1,p=>match hd zs p with
  | none=>none
  | some h=>match rdL (rdT zs d) h.2.2.1 h.2.2.2 with
   | none=>none
   | some y=>some (h.1,h.2.1,y.1,y.2)
theorem rdL_len {g:Int→Option (Int × Int × F × Int)}:∀ {c:Nat} {p:Int} {y:F × Int},rdL g c p=some y→y.1.len=c:=by
 intro c
 induction c with
 | zero=>intro p y h;simp only[rdL,Option.some.injEq] at h;subst h;rfl
 | succ c ih =>
  intro p y h;rw[rdL] at h
  cases hg:g p with
  | none=>rw[hg] at h;cases h
  | some x =>
   rw[hg] at h
   cases hl:rdL g c x.2.2.2 with
   | none=>simp only[hl] at h;cases h
   | some z=>simp only[hl,Option.some.injEq] at h;subst h;simp only[F.len,ih hl]
def rIL (g:Nat→Int→Option (Int × Int × F × Int × Nat)):Nat→Nat→Int→Option (F × Int × Nat)
 | 0,r,p=>some (.nil,p,r)
 | c+1,r,p=>match g r p with
  | none=>none
  | some x=>match rIL g c x.2.2.2.2 x.2.2.2.1 with
   | none=>none
   | some y=>some (.cons x.1 x.2.1 x.2.2.1 y.1,y.2)
def rI (zs:List Int):Nat→Nat→Int→Option (Int × Int × F × Int × Nat)
 | 0,_,_=>none
 | d+1,r,p=>if r=0 then none else match hd zs p with
  | none=>none
  | some h=>if fitsB h.1 h.2.1 h.2.2.1=true then (match rIL (rI zs d) h.2.2.1 (r - 1) h.2.2.2 with
   | none=>none
   | some y=>some (h.1,h.2.1,y.1,y.2.1,y.2.2)) else none
def okRd (p r:Nat) (x:Option (Int × Int × F × Int)):Option (Int × Int × F × Int × Nat):=match x with
 | none=>none
 | some y=>if p≠0∧fitsB y.1 y.2.1 y.2.2.1.len=true∧okF y.2.2.1 (p - 1)=true∧1+y.2.2.1.size≤r then some (y.1,y.2.1,y.2.2.1,y.2.2.2,r - (1+y.2.2.1.size)) else none
theorem rIL_is (zs:List Int) (d:Nat) (ih:∀ r p,rI zs d r p=okRd d r (rdT zs d p)):∀ (c r:Nat) (p:Int),rIL (rI zs d) c r p=match rdL (rdT zs d) c p with
  | none=>none
  | some y=>if okF y.1 d=true∧y.1.size≤r then some (y.1,y.2,r - y.1.size) else none:=by
 intro c
 induction c with
 | zero=>intro r p;simp [rIL,rdL,okF,F.size]
 | succ c ihc =>
  intro r p;rw[rIL,rdL,ih r p]
  cases hx:rdT zs d p with
  | none=>simp [okRd]
  | some x =>
   simp only[okRd];by_cases hc:d≠0∧fitsB x.1 x.2.1 x.2.2.1.len=true∧okF x.2.2.1 (d - 1)=true∧1+x.2.2.1.size≤r
   ·
    rw[if_pos hc];simp only[ihc]
    cases hl:rdL (rdT zs d) c x.2.2.2 with
    | none=>rfl
    | some y =>
     simp only[]
     have e:okF (.cons x.1 x.2.1 x.2.2.1 y.1) d=okF y.1 d:=by simp [okF,hc.1,hc.2.1,hc.2.2.1]
     have es:(F.cons x.1 x.2.1 x.2.2.1 y.1).size=1+x.2.2.1.size+y.1.size:=rfl;rw[e,es];have h4:=hc.2.2.2;by_cases h5:okF y.1 d=true∧y.1.size≤r - (1+x.2.2.1.size)
     ·
      rw[if_pos h5,if_pos ⟨h5.1,by omega⟩];simp only[Option.some.injEq,Prod.mk.injEq,true_and];omega
     ·
      rw[if_neg h5,if_neg (fun x=>h5 ⟨x.1,by omega⟩)]
   ·
    rw[if_neg hc]
    cases hl:rdL (rdT zs d) c x.2.2.2 with
    | none=>rfl
    | some y =>
     simp only[];rw[if_neg];rintro ⟨h1,h2⟩;apply hc;simp only[okF,bA9,dE9] at h1;have es:(F.cons x.1 x.2.1 x.2.2.1 y.1).size=1+x.2.2.1.size+y.1.size:=rfl;rw[es] at h2;exact ⟨h1.1.1.1,h1.1.1.2,h1.1.2,by omega⟩
theorem rI_is (zs:List Int) (d:Nat):∀ (r:Nat) (p:Int),rI zs d r p=okRd d r (rdT zs d p):=by
 induction d with
 | zero=>intro r p;rfl
 | succ d ih =>
  intro r p;rw[rI,rdT]
  cases hh:hd zs p with
  | none=>simp [okRd]
  | some h =>
   simp only[rIL_is zs d ih]
   cases hl:rdL (rdT zs d) h.2.2.1 h.2.2.2 with
   | none=>simp only[okRd];split <;> first|rfl | (split <;> rfl)
   | some y =>
    simp only[okRd,rdL_len hl,Nat.add_sub_cancel];by_cases hr:r=0
    ·
     rw[if_pos hr,if_neg (fun x=>by omega)]
    ·
     rw[if_neg hr];by_cases hf:fitsB h.1 h.2.1 h.2.2.1=true
     ·
      rw[if_pos hf];by_cases h5:okF y.1 d=true∧y.1.size≤r - 1
      ·
       rw[if_pos h5,if_pos ⟨by omega,hf,h5.1,by omega⟩];simp only[Option.some.injEq,Prod.mk.injEq,true_and];omega
      ·
       rw[if_neg h5,if_neg (fun x=>h5 ⟨x.2.2.1,by omega⟩)]
     ·
      rw[if_neg hf,if_neg (fun x=>hf x.2.1)]
def readV (zs:List Int) (p:Int):Int × Int × F × Int:=match rdT zs 10 p with
 | none=>(0,0,.nil,-1)
 | some y=>if okT y.1 y.2.1 y.2.2.1=true then y else (0,0,.nil,-1)
theorem rI_read (zs:List Int) (p:Int):readV zs p=match rI zs 10 60 p with
  | none=>(0,0,.nil,-1)
  | some y=>(y.1,y.2.1,y.2.2.1,y.2.2.2.1):=by
 rw[rI_is,readV]
 cases hx:rdT zs 10 p with
 | none=>rfl
 | some y =>
  simp only[okRd];by_cases h:okT y.1 y.2.1 y.2.2.1=true
  ·
   rw[if_pos h];simp only[okT,bA9,dE9] at h;rw[if_pos ⟨by omega,h.1.1,h.1.2,h.2⟩]
  ·
   rw[if_neg h];rw[if_neg];rintro ⟨-,h1,h2,h3⟩;apply h;simp only[okT,bA9,dE9];exact ⟨⟨h1,h2⟩,h3⟩
theorem hdN_bounds {zs:List Int} (hz:Byt zs) {k p:Int} (h0:0≤p) (h1:p≤zs.length) {x:Int × Int × Nat × Int} (h:hdN zs k p=some x):x.1=k∧x.2.2.1≤3∧0≤x.2.2.2∧x.2.2.2≤zs.length:=by
 have b1:=getNum_bounds zs hz p;have b2:=getNum_bounds zs hz (getNum zs p).2;unfold hdN at h
 split at h
 ·
  simp only[Option.some.injEq] at h;subst h;exact ⟨rfl,by simp,h0,h1⟩
 ·
  split at h
  ·
   simp only[Option.some.injEq] at h;subst h;exact ⟨rfl,by simp,h0,h1⟩
  ·
   split at h
   ·
    rename_i e;simp only[Option.some.injEq] at h;subst h;exact ⟨e.symm,by simp,h0,h1⟩
   ·
    split at h
    ·
     rename_i e
     split at h
     ·
      cases h
     ·
      simp only[Option.some.injEq] at h;subst h;refine ⟨e.symm,by simp,?_,?_⟩
      ·
       simp only[];omega
      ·
       rcases b1 with b1|b1
       ·
        rw[b1];first | (simp;done) | (simp;omega)
       ·
        exact b1.2.2
    ·
     split at h
     ·
      rename_i e
      split at h
      ·
       cases h
      ·
       split at h
       ·
        cases h
       ·
        rename_i hc
        simp only[Option.some.injEq] at h;subst h;simp only[not_or] at hc;refine ⟨e.symm,by simp only[];omega,by simp only[];omega,?_⟩;rcases b2 with b2|b2
        ·
         rw[b2];first | (simp;done) | (simp;omega)
        ·
         exact b2.2.2
     ·
      cases h
theorem rdL_bounds {zs:List Int} {g:Int→Option (Int × Int × F × Int)} (hg:∀ p x,0≤p→g p=some x→0≤x.2.2.2∧x.2.2.2≤zs.length):∀ {c:Nat} {p:Int} {y:F × Int},0≤p→p≤zs.length→rdL g c p=some y→0≤y.2∧y.2≤zs.length:=by
 intro c
 induction c with
 | zero=>intro p y h0 h1 h;simp only[rdL,Option.some.injEq] at h;subst h;exact ⟨h0,h1⟩
 | succ c ih =>
  intro p y h0 h1 h;rw[rdL] at h
  cases hx:g p with
  | none=>rw[hx] at h;cases h
  | some x =>
   rw[hx] at h;have hb:=hg p x h0 hx
   cases hl:rdL g c x.2.2.2 with
   | none=>simp only[hl] at h;cases h
   | some z=>simp only[hl,Option.some.injEq] at h;subst h;have:=ih hb.1 hb.2 hl;exact this
theorem rdT_bounds {zs:List Int} (hz:Byt zs):∀ (d:Nat) (p:Int) (x:Int × Int × F × Int),rdT zs d p=some x→0≤x.2.2.2∧x.2.2.2≤zs.length:=by
 intro d
 induction d with
 | zero=>intro p x h;cases h
 | succ d ih =>
  intro p x h;rw[rdT] at h
  cases hh:hd zs p with
  | none=>rw[hh] at h;cases h
  | some y =>
   rw[hh] at h;unfold hd at hh
   split at hh
   ·
    cases hh
   ·
    rename_i hc
    simp only[not_or,Int.not_lt,Int.not_le] at hc;have hb:=hdN_bounds hz (by omega) (by omega) hh
    cases hl:rdL (rdT zs d) y.2.2.1 y.2.2.2 with
    | none=>simp only[hl] at h;cases h
    | some z=>simp only[hl,Option.some.injEq] at h;subst h;exact rdL_bounds (fun p x _ hx=>ih p x hx) hb.2.2.1 hb.2.2.2 hl
def rdR (zs:List Int) (d:Nat) (p:Int):Int × Int × F × Int:=match rdT zs d p with
 | none=>(0,0,.nil,-1)
 | some x=>x
def appL (P:F) (o:Option (F × Int)):Option (F × Int):=o.map (fun y=>(P.app y.1,y.2))
theorem appL_nil (o:Option (F × Int)):appL .nil o=o:=by cases o <;> rfl
theorem appL_some {g:Int→Option (Int × Int × F × Int)} {P:F} {c:Nat} {p:Int} {x:Int × Int × F × Int} (h:g p=some x):appL P (rdL g (c+1) p)=appL (P.app (.cons x.1 x.2.1 x.2.2.1 .nil)) (rdL g c x.2.2.2):=by
 rw[rdL,h];simp only[]
 cases rdL g c x.2.2.2 with
 | none=>rfl
 | some y=>simp only[appL,Option.map_some,F.app_assoc];rfl
theorem appL_none {g:Int→Option (Int × Int × F × Int)} {P:F} {c:Nat} {p:Int} (h:g p=none):appL P (rdL g (c+1) p)=none:=by rw[rdL,h];rfl
theorem rdR_head {zs:List Int} {d:Nat} {p:Int} {h:Int × Int × Nat × Int} (hh:hd zs p=some h):rdR zs (d+1) p=match rdL (rdT zs d) h.2.2.1 h.2.2.2 with
  | none=>(0,0,.nil,-1)
  | some y=>(h.1,h.2.1,y.1,y.2):=by
 unfold rdR;rw[rdT,hh];simp only[]
 cases rdL (rdT zs d) h.2.2.1 h.2.2.2 <;> rfl
theorem rdR_no {zs:List Int} {d:Nat} {p:Int} (hh:hd zs p=none):rdR zs (d+1) p=(0,0,.nil,-1):=by
 unfold rdR;rw[rdT,hh]
theorem specGet (a:Option Addr) (n cap:Nat) (zs:List Int) (p:Int) (w:World) (h:Reads w a n zs) (hz:Byt zs) (hn:n≤4194304) (hp:p≤9223372036854775807) :
  Calls Tryz.prog 29 #[.slice a n cap,.int .i64 p] w fun e w'=>e = .returned (.tuple #[.int .i64 (getNum zs p).1,.int .i64 (getNum zs p).2])∧∃ m,w' = w.drewN m:=by
 obtain ⟨hl,h⟩:=h;by_cases hneg:p < 0
 ·
  have e:getNum zs p=(0,-1):=by rw[getNum,if_pos hneg]
  rw[e];clear h hl hz e;go_enter Tryz.func29,Tryz.ntmps29;go_wp2;go_ret2;exact ⟨rfl,0,rfl⟩
 have e0:getNum zs p=getAt zs p.toNat 5 0 0:=by rw[getNum,if_neg hneg]
 rw[e0];by_cases hfar:(n:Int)≤p
 ·
  rw[getAt_out (by omega)];clear h hl hz e0;go_enter Tryz.func29,Tryz.ntmps29;go_wp2;refine wp_loop_rounds 1 ?_;rw[rounds_succ];go_wp2;go_ret2;exact ⟨rfl,0,rfl⟩
 obtain ⟨q,rfl⟩:∃ q:Nat,p=q:=⟨p.toNat,by omega⟩
 have hq:q < n:=by omega
 rcases h with h|⟨b,off,rfl,hc⟩
 ·
  omega
 rw[Int.toNat_natCast];clear e0 hfar;obtain ⟨r1,r2,hr⟩:∃ r1 r2,getAt zs q 5 0 0=(r1,r2):=⟨_,_,rfl⟩;rw[hr];have HR:Hid (getAt zs q 5 0 0=(r1,r2)):=hr;clear hr;go_enter Tryz.func29,Tryz.ntmps29;go_wp2
 go_loopw [6,7,8] (fun v u i wr=>∃ (k m:Nat) (N U:Int),k≤5∧i = .int .i64 k∧v = .int .i64 N∧u = .int .i64 U∧Hid (U=128 ^ k)∧0≤N∧N < U∧Hid (getAt zs q (5 - k) k N=(r1,r2))∧wr=w.drewN m) (fun _ _ i _=>5 - (intOf i).toNat)
 case atStart=>exact ⟨0,0,0,1,by omega,rfl,rfl,rfl,rfl,by omega,by decide,HR,rfl⟩
 case round =>
  obtain ⟨k,m,N,U,hk,rfl,rfl,rfl,HU,hN0,hN1,HK,rfl⟩:=hrel;clear HR;by_cases hk5:k < 5
  ·
   by_cases hqk:q+k < n
   ·
    obtain ⟨x,hx⟩:∃ x,x=zs.getD (q+k) 0:=⟨_,rfl⟩;have hb:=byt_get hz (q+k);rw[← List.getD_eq_getElem?_getD,← hx] at hb;obtain ⟨hx0,hx1⟩:=hb
    have hcx:w.cell? ⟨b,off+(q+k),none⟩=some (.int .u8 x):=by rw[hx];exact hc (q+k) hqk
    have hand:=and127' x hx0 hx1;have HX:Hid (x=zs.getD (q+k) 0):=hx;obtain ⟨hU0,hU1⟩:=unit_le HU.out hk5;obtain ⟨hP0,hP1⟩:=prod_le (x:=x) hx0 hU0
    have HK':Hid (getAt zs q ((4 - k)+1) k N=(r1,r2)):=by have:=HK.out;rwa [show 5 - k=(4 - k)+1 by omega] at this
    have HL:Hid (q+k < zs.length):=by rw[hl];exact hqk
    clear hx hc hz hl HK;by_cases h1:128≤x
    ·
     have HN:Hid (getAt zs q (5 - (k+1)) (k+1) (N+x % 128 * U)=(r1,r2)):=by
      have:=HK'.out;rw[getAt_more HL.out HX.out HU.out h1] at this;rwa [show 5 - (k+1)=4 - k by omega]
     go_wp2;go_roundw
     case rel=>exact ⟨k+1,m,N+x % 128 * U,U * 128,by omega,by go_num,rfl,rfl,unit_step HU.out,by omega,by omega,HN,rfl⟩
     case measure=>simp [intOf];omega
    ·
     by_cases hA:x≤0∧0 < k
     ·
      obtain ⟨hA,hB⟩:=hA
      have HF:Hid ((0,-1)=(r1,r2)):=by have:=HK'.out;rwa [getAt_no HL.out HX.out HU.out (by omega) (.inl ⟨by omega,hB⟩)] at this
      go_wp2
      all_goals (go_ret2;exact ⟨ret2 HF.out,m,rfl⟩)
     ·
      by_cases hC:2147483647 < N+x % 128 * U
      ·
       have HF:Hid ((0,-1)=(r1,r2)):=by have:=HK'.out;rwa [getAt_no HL.out HX.out HU.out (by omega) (.inr hC)] at this
       have h3:0 < x:=by
        rcases (show 0 < x∨k=0 by omega) with h3|rfl
        ·
         exact h3
        ·
         have:=HU.out;rw[Int.pow_zero] at this;omega
       go_wp2
       all_goals (go_ret2;exact ⟨ret2 HF.out,m,rfl⟩)
      ·
       have HF:Hid ((N+x % 128 * U,(q:Int)+k+1)=(r1,r2)):=by have:=HK'.out;rwa [getAt_yes HL.out HX.out HU.out (by omega) (by omega)] at this
       rcases (show 0 < x∨(x≤0∧k < 1) by omega) with h3|⟨h3,h4⟩
       ·
        go_wp2
        all_goals (go_ret2;exact ⟨ret2 HF.out,m,rfl⟩)
       ·
        have HF':Hid ((N,(q:Int)+1)=(r1,r2)):=at_zero (by omega) (by omega) HF.out;go_wp2
        all_goals (go_ret2;first|exact ⟨ret2 HF.out,m,rfl⟩|exact ⟨ret2 HF'.out,m,rfl⟩)
   ·
    have HF:Hid ((0,-1)=(r1,r2)):=by have:=HK.out;rwa [getAt_out (by omega)] at this
    clear hc hz hl;go_wp2
    all_goals (go_ret2;exact ⟨ret2 HF.out,m,rfl⟩)
  ·
   obtain rfl:k=5:=by omega
   have HF:Hid ((0,-1)=(r1,r2)):=HK.out;clear hc hz hl;go_wp2
   all_goals (go_ret2;exact ⟨ret2 HF.out,m,rfl⟩)
structure Tn (w u:World) (bs:List Nat):Prop where
 os:u.os=w.os
 tape:u.tape=w.tape
 output:u.output=w.output
 size:w.heap.size≤u.heap.size
 block:∀ i,i < w.heap.size→i ∉ bs→u.heap[i]? = w.heap[i]?
theorem Tn.trans {a b c:World} {bs:List Nat} (h:Tn a b bs) (k:Tn b c bs):Tn a c bs :=
 ⟨k.os.trans h.os,k.tape.trans h.tape,k.output.trans h.output,Nat.le_trans h.size k.size,fun i hi hn=>(k.block i (Nat.lt_of_lt_of_le hi h.size) hn).trans (h.block i hi hn)⟩
theorem Tn.mono {w u:World} {bs bs':List Nat} (h:Tn w u bs) (hs:∀ x ∈ bs,x ∈ bs'):Tn w u bs' :=
 ⟨h.os,h.tape,h.output,h.size,fun i hi hn=>h.block i hi (fun hx=>hn (hs i hx))⟩
theorem Tn.row {w u:World} {g:Nat} (h:w.grownBy u (some g)):Tn w u [g]:=⟨h.os,h.tape,h.output,h.size,fun i hi hn=>h.block i hi (by simpa using hn)⟩
theorem Tn.fresh {a w u:World} {bs:List Nat} (h:a.grownBy w none) (k:Tn w u bs) (hb:∀ x ∈ bs,a.heap.size≤x):a.grownBy u none :=
 ⟨k.os.trans h.os,k.tape.trans h.tape,k.output.trans h.output,Nat.le_trans h.size k.size,fun i hi _=>(k.block i (Nat.lt_of_lt_of_le hi h.size) (fun hx=>by have:=hb i hx;omega)).trans (h.block i hi (by simp))⟩
end Go.Proofs.YtnmlbeefjjohfaaGreatDoor.By
