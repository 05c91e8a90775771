/-
  No statement is proved here.
-/
import Derived.Test.YtblbnillilbacaaGreatDoorPUa
import Derived.Test.YtblbnillilbacaaGreatDoorNMCa
namespace Go.Proofs.YtblbnillilbacaaGreatDoor.By
set_option maxRecDepth 100000
set_option maxHeartbeats 16000000
open Go.RowKit
set_option linter.unusedVariables false
set_option linter.unusedSimpArgs false
theorem ok3 {p:PE} {kids alts:GE} (h:okN p kids alts=true) (h3:p.k=3):kids = .nil∧alts = .nil:=by
 obtain ⟨k,n,nm,ar,lt⟩:=p;simp only at h3;subst h3;by_cases hn:n=0
 ·
  subst hn;unfold okN formR at h;simp only[form3] at h;rw[Bool.and_eq_true] at h;have h2:=h.2;simp only[Option.getD_some] at h2;rw[fit8] at h2;simp only[Bool.and_eq_true,decide_eq_true_eq] at h2;exact ⟨GE.nil_of_len h2.1.2,GE.nil_of_len h2.2⟩
 ·
  unfold okN at h;rw[form3_no n hn] at h;simp at h
theorem names_eq (ds:List Da):∀ (g:GE) (S:List (List Int)) (al:Bool) (k:Int) (nm ar:List Int) (i d:Nat),okG g d=true→l6G ds S al k nm ar i g=(nmG S al k nm ar i g && epG ds g && !(al && badC ds g))
 | .nil,S,al,k,nm,ar,i,d,_=>by simp [l6G,nmG,epG,badC]
 | .cons hc hv p kids alts rest,S,al,k,nm,ar,i,d,h=>by
  simp only[okG,Bool.and_eq_true] at h;obtain ⟨⟨⟨⟨-,hN⟩,hk⟩,ha⟩,hr⟩:=h;rw[l6G_cons,nmG_cons,epG_cons,names_eq ds rest S al k nm ar (i+1) d hr];unfold l6E nmE epE cnE ownV;generalize hdS al hv k nm ar i++S=T;by_cases h3:p.k=3
  ·
   obtain ⟨rfl,rfl⟩:=ok3 hN h3;simp only[h3,if_true,decide_true,nmG,epG,badC];generalize amV p.name T=b0;generalize nmG S al k nm ar (i+1) rest=b1;generalize epG ds rest=b2;generalize badC ds rest=b3;generalize cnOk ds hc hv.length=b4;generalize decide (0 < hc.length)=b5
   have e15:decide ((3:Int)=15)=false:=by decide
   rw[e15]
   cases al <;> cases b0 <;> cases b1 <;> cases b2 <;> cases b3 <;> cases b4 <;> cases b5 <;> simp
  ·
   rw[if_neg h3,names_eq ds kids T false p.k p.name p.arg 0 _ hk,names_eq ds alts T true p.k p.name p.arg 0 _ ha];simp only[badC,h3,decide_false];generalize nmG T false p.k p.name p.arg 0 kids=b0;generalize nmG T true p.k p.name p.arg 0 alts=b1;generalize nmG S al k nm ar (i+1) rest=b2;generalize epG ds rest=b3;generalize epG ds kids=b4;generalize epG ds alts=b5;generalize badC ds rest=b6;generalize badC ds alts=b7;generalize cnOk ds hc hv.length=b8;generalize cnOk ds p.name kids.len=b9;generalize decide (0 < hc.length)=b10;generalize decide (p.k=15)=b11
   cases al <;> cases b8 <;> cases b9 <;> cases b10 <;> cases b11 <;> cases b0 <;> cases b1 <;> cases b7 <;> simp [Bool.and_comm,Bool.and_assoc,Bool.and_left_comm]
theorem namesE_eq (ds:List Da) (p:PE) (kids alts:GE) (S:List (List Int)) (d:Nat) (h:okE p kids alts d=true):l6E ds S p kids alts=(nmE S p kids alts && epE ds p kids alts):=by
 unfold okE at h;simp only[Bool.and_eq_true] at h;obtain ⟨⟨⟨hd0,hN⟩,hk⟩,ha⟩:=h;have:=names_eq ds (.cons [] [] p kids alts .nil) S false 0 [] [] 0 d (by simp only[okG,Bool.and_eq_true];exact ⟨⟨⟨⟨hd0,hN⟩,hk⟩,ha⟩,trivial⟩);rw[l6G_cons,nmG_cons,epG_cons] at this
 have e0:hdS false [] 0 [] [] 0=[]:=by decide
 rw[e0] at this;simpa [l6G,nmG,epG] using this
def hds:GE→List (List Int)
 | .nil=>[]
 | .cons hc _ _ _ _ r=>hc::hds r
theorem hds_len:∀ g:GE,(hds g).length=g.len
 | .nil=>rfl
 | .cons _ _ _ _ _ r=>by simp [hds,GE.len,hds_len r]
def cD (ds:List Da) (z:List Int):Int:=(cIx z ds 0).1
def nCs (ds:List Da) (d:Int):Nat:=match ds[d.toNat]? with
 | some x=>x.cons.length
 | none=>0
def awL (ds:List Da) (d:Int):List (List Int)→Bool
 | []=>true
 | c::r=>(decide (0≤cD ds c) && decide (cD ds c=d)) && awL ds d r
def awC (ds:List Da) (cs:List (List Int)) (wild:Bool):Bool:=match cs with
 | []=>false
 | c::r=>awL ds (cD ds c) (c::r) && (unV [] (c::r) && (decide ((c::r).length=nCs ds (cD ds c)) != wild))
def awV (ds:List Da) (hs:List (List Int)):Bool:=if (hs.getLastD []).length=0 then awC ds hs.dropLast true else awC ds hs false
def awE (ds:List Da) (p:PE) (kids alts:GE):Bool:=!decide (p.k=16) || awV ds (hds alts)
def dtG (ds:List Da):Int→List (List Int)→Int
 | at',[]=>at'
 | at',c::r=>if c.length=0 then dtG ds at' r else if 0≤at'∧cD ds c≠at' then -1 else dtG ds (cD ds c) r
def rsL (n:Nat):Bool→Nat→List (List Int)→List (List Int)→Bool
 | rest,cnt,_,[]=>(rest && decide (cnt < n)) || (!rest && decide (cnt=n))
 | rest,cnt,P,c::r=>!rest && (if c.length=0 then rsL n true cnt (P++[c]) r else !amV c P && rsL n false (cnt+1) (P++[c]) r)
def amsV (ds:List Da) (hs:List (List Int)):Bool:=decide (0≤dtG ds (-1) hs) && rsL (nCs ds (dtG ds (-1) hs)) false 0 [] hs
def baG (ds:List Da):GE→Bool
 | .nil=>true
 | .cons _ _ p kids alts r=>(baG ds kids && (!decide (p.k=16) || (baG ds alts && amsV ds (hds alts)))) && baG ds r
def l6aE (ds:List Da) (p:PE) (kids alts:GE):Bool:=baG ds kids && (!decide (p.k=16) || (baG ds alts && amsV ds (hds alts)))
theorem baG_cons (ds:List Da) (hc:List Int) (hv:List (List Int)) (p:PE) (kids alts r:GE):baG ds (.cons hc hv p kids alts r)=(l6aE ds p kids alts && baG ds r):=rfl
theorem kAt_mem {z:List Int}:∀ {cs:List Co} {y:Co},kAt z cs=some y→y ∈ cs∧y.name=z
 | [],_,h=>by cases h
 | x::r,y,h=>by
  unfold kAt at h;by_cases hx:x.name=z
  ·
   rw[if_pos hx] at h;obtain rfl:=Option.some.inj h;exact ⟨List.mem_cons_self ..,hx⟩
  ·
   rw[if_neg hx] at h;have:=kAt_mem h;exact ⟨List.mem_cons_of_mem _ this.1,this.2⟩
theorem cIx_mem {z:List Int}:∀ {ds:List Da} {i:Nat},0≤(cIx z ds i).1→∃ (j:Nat) (x:Da),(cIx z ds i).1=((i+j:Nat):Int)∧ds[j]? = some x∧∃ y ∈ x.cons,y.name=z
 | [],i,h=>by simp [cIx] at h
 | x::r,i,h=>by
  rw[cIx_cons] at h ⊢;rcases kIx_at z x.cons 0 with ⟨h1,h2⟩|⟨k,y,h1,h2,h3⟩
  ·
   rw[h1,if_neg (by omega)] at h ⊢;obtain ⟨j,x',e1,e2,e3⟩:=cIx_mem h;exact ⟨j+1,x',by rw[e1];congr 1;omega,by simpa using e2,e3⟩
  ·
   rw[h1,if_pos (by omega)];exact ⟨0,x,by simp,rfl,y,(kAt_mem h3).1,(kAt_mem h3).2⟩
def NoE (ds:List Da):Prop:=∀ x ∈ ds,∀ y ∈ x.cons,y.name≠[]
theorem cD_nil {ds:List Da} (h:NoE ds) {z:List Int} (hz:z.length=0):cD ds z < 0:=by
 obtain rfl:=List.eq_nil_of_length_eq_zero hz;rcases Int.lt_or_le (cD ds []) 0 with h1|h1
 ·
  exact h1
 ·
  obtain ⟨j,x,-,e2,y,hy,e3⟩:=cIx_mem h1;exact absurd e3 (h x (List.mem_of_getElem? e2) y hy)
theorem rsL_run (n:Nat):∀ (A T P:List (List Int)) (cnt:Nat),(∀ x ∈ A,x.length≠0)→rsL n false cnt P (A++T)=(unV P A && rsL n false (cnt+A.length) (P++A) T)
 | [],T,P,cnt,_=>by simp [unV]
 | x::A,T,P,cnt,h=>by
  have hx:¬ x.length=0:=h x (List.mem_cons_self ..);simp only[List.cons_append,rsL,if_neg hx,Bool.not_false,Bool.true_and,unV];rw[rsL_run n A T (P++[x]) (cnt+1) (fun y hy=>h y (List.mem_cons_of_mem _ hy)),List.append_assoc,List.singleton_append,Bool.and_assoc,lB,show cnt+1+A.length=cnt+(A.length+1) by omega]
theorem rsL_rest (n cnt:Nat) (P:List (List Int)) (c:List Int) (r:List (List Int)):rsL n true cnt P (c::r)=false:=rfl
theorem rsL_mid (n:Nat):∀ (A:List (List Int)) (z:List Int) (P:List (List Int)) (cnt:Nat),(∃ x ∈ A,x.length=0)→rsL n false cnt P (A++[z])=false
 | [],_,_,_,h=>by obtain ⟨x,hx,-⟩:=h;cases hx
 | x::A,z,P,cnt,h=>by
  simp only[List.cons_append,rsL,Bool.not_false,Bool.true_and];by_cases hx:x.length=0
  ·
   rw[if_pos hx]
   cases A with
   | nil=>rfl
   | cons y A=>rfl
  ·
   rw[if_neg hx];obtain ⟨y,hy,hy0⟩:=h;rcases List.mem_cons.1 hy with rfl|hy
   ·
    exact absurd hy0 hx
   ·
    rw[rsL_mid n A z (P++[x]) (cnt+1) ⟨y,hy,hy0⟩,Bool.and_false]
theorem awL_bad (ds:List Da) (d:Int) (hN:NoE ds):∀ (A:List (List Int)),(∃ x ∈ A,x.length=0)→awL ds d A=false
 | [],h=>by obtain ⟨x,hx,-⟩:=h;cases hx
 | x::A,h=>by
  unfold awL;obtain ⟨y,hy,hy0⟩:=h;rcases List.mem_cons.1 hy with rfl|hy
  ·
   have:=cD_nil hN hy0;rw[decide_eq_false (by omega:¬ 0≤cD ds y)];rfl
  ·
   rw[awL_bad ds d hN A ⟨y,hy,hy0⟩,Bool.and_false]
theorem dtG_run (ds:List Da):∀ (A T:List (List Int)) (d:Int),0≤d→(∀ x ∈ A,x.length≠0∧0≤cD ds x)→(∀ x ∈ T,x.length=0)→dtG ds d (A++T)=if awL ds d A=true then d else -1
 | [],T,d,hd,_,hT=>by
  simp only[List.nil_append,awL,if_true]
  induction T with
  | nil=>rfl
  | cons t T ih=>simp only[dtG,if_pos (hT t (List.mem_cons_self ..))];exact ih (fun x hx=>hT x (List.mem_cons_of_mem _ hx))
 | x::A,T,d,hd,h,hT=>by
  have hx:=h x (List.mem_cons_self ..);simp only[List.cons_append,dtG,if_neg hx.1,awL,decide_eq_true hx.2,Bool.true_and];by_cases e:cD ds x=d
  ·
   rw[if_neg (by omega),e,dtG_run ds A T d hd (fun y hy=>h y (List.mem_cons_of_mem _ hy)) hT];simp
  ·
   rw[if_pos ⟨hd,e⟩];simp [e]
theorem nodup_le:∀ (A L:List (List Int)) (P:List (List Int)),unV P A=true→(∀ x ∈ A,x ∈ L)→A.length≤L.length
 | [],L,P,_,_=>Nat.zero_le _
 | x::A,L,P,h,hL=>by
  simp only[unV,Bool.and_eq_true] at h;have hxL:=hL x (List.mem_cons_self ..)
  have hne:∀ y ∈ A,y≠x:=by
   have aux:∀ (B:List (List Int)) (Q:List (List Int)),amV x Q=true→unV Q B=true→∀ y ∈ B,y≠x:=by
    intro B
    induction B with
    | nil=>intro Q _ _ y hy;cases hy
    | cons b B ih =>
     intro Q hq hb y hy;simp only[unV,Bool.and_eq_true,Bool.not_eq_true'] at hb;rcases List.mem_cons.1 hy with rfl|hy
     ·
      intro e;subst e;rw[hq] at hb;exact absurd hb.1 (by simp)
     ·
      exact ih (Q++[b]) (by rw[namV_app,hq,Bool.true_or]) hb.2 y hy
   exact aux A (P++[x]) (by rw[namV_app];simp [amV]) h.2
  have:=nodup_le A (L.erase x) (P++[x]) h.2 (fun y hy=>(List.mem_erase_of_ne (hne y hy)).2 (hL y (List.mem_cons_of_mem _ hy)));rw[List.length_erase_of_mem hxL] at this;have hp:0 < L.length:=List.length_pos_of_mem hxL;simp only[lB];omega
theorem awL_mem {ds:List Da} {d:Int}:∀ {A:List (List Int)},awL ds d A=true→∀ x ∈ A,0≤cD ds x∧cD ds x=d
 | [],_,x,hx=>by cases hx
 | y::A,h,x,hx=>by
  simp only[awL,Bool.and_eq_true,decide_eq_true_eq] at h;rcases List.mem_cons.1 hx with rfl|hx
  ·
   exact h.1
  ·
   exact awL_mem h.2 x hx
theorem pigeon {ds:List Da} {d:Int} {A:List (List Int)} (h:awL ds d A=true) (hu:unV [] A=true):A.length≤nCs ds d:=by
 cases A with
 | nil=>exact Nat.zero_le _
 | cons c r =>
  have hc:=awL_mem h c (List.mem_cons_self ..);obtain ⟨j,x,e1,e2,-⟩:=cIx_mem (z:=c) (ds:=ds) (i:=0) hc.1
  have hd:d=(j:Int):=by rw[← hc.2];show (cIx c ds 0).1=_;rw[e1,Nat.zero_add]
  have hn:nCs ds d=x.cons.length:=by unfold nCs;rw[hd,Int.toNat_natCast,e2]
  rw[hn,← List.length_map (f:=Co.name)];refine nodup_le (c::r) _ [] hu (fun z hz=>?_);have hz':=awL_mem h z hz;obtain ⟨j',x',f1,f2,y,hy,hyn⟩:=cIx_mem (z:=z) (ds:=ds) (i:=0) hz'.1
  have:(j':Int)=(j:Int):=by rw[← hd,← hz'.2];show _=(cIx z ds 0).1;rw[f1,Nat.zero_add]
  obtain rfl:j' = j:=by omega
  rw[e2] at f2;obtain rfl:=Option.some.inj f2;exact List.mem_map.2 ⟨y,hy,hyn⟩
theorem arms_eq {ds:List Da} (hN:NoE ds) (P:List (List Int)) (z:List Int) (hf:∀ x ∈ P++[z],x.length≠0→0≤cD ds x):awV ds (P++[z])=amsV ds (P++[z]):=by
 have e1:(P++[z]).getLastD []=z:=by simp
 have e2:(P++[z]).dropLast=P:=by simp
 unfold awV;rw[e1,e2];by_cases hm:∃ x ∈ P,x.length=0
 ·
  have hr:amsV ds (P++[z])=false:=by unfold amsV;rw[rsL_mid _ P z [] 0 hm,Bool.and_false]
  rw[hr]
  have key:∀ (cs:List (List Int)) (b:Bool),(∃ x ∈ cs,x.length=0)→awC ds cs b=false:=by
   intro cs b hx
   cases cs with
   | nil=>rfl
   | cons c r=>unfold awC;simp only[];rw[awL_bad ds _ hN _ hx];rfl
  split
  ·
   exact key P true hm
  ·
   exact key (P++[z]) false (by obtain ⟨x,hx,h0⟩:=hm;exact ⟨x,List.mem_append_left _ hx,h0⟩)
 have hP:∀ x ∈ P,x.length≠0:=fun x hx h0=>hm ⟨x,hx,h0⟩
 by_cases hz:z.length=0
 ·
  rw[if_pos hz]
  cases P with
  | nil =>
   have:dtG ds (-1) ([]++[z]) = -1:=by simp [dtG,hz]
   unfold awC amsV;rw[this];rfl
  | cons c r =>
   have hc:=hP c (List.mem_cons_self ..);have hcd:=hf c (by simp) hc
   have hd:dtG ds (-1) ((c::r)++[z])=if awL ds (cD ds c) r=true then cD ds c else -1:=by
    simp only[List.cons_append,dtG,if_neg hc];rw[if_neg (by omega)];exact dtG_run ds r [z] _ hcd (fun x hx=>⟨hP x (List.mem_cons_of_mem _ hx),hf x (by simp [hx]) (hP x (List.mem_cons_of_mem _ hx))⟩) (fun x hx=>by simp at hx;rw[hx];exact hz)
   unfold awC amsV;simp only[];rw[hd,rsL_run _ (c::r) [z] [] 0 hP]
   have ea:awL ds (cD ds c) (c::r)=awL ds (cD ds c) r:=by simp [awL,hcd]
   cases hw:awL ds (cD ds c) r with
   | false=>rw[ea,hw];simp
   | true =>
    rw[ea,hw];simp only[if_true,decide_eq_true hcd,Bool.true_and,rsL,if_pos hz,Bool.not_false,Bool.not_true,Bool.false_and,Bool.or_false,Nat.zero_add]
    cases hu:unV [] (c::r) with
    | false=>rfl
    | true =>
     have hp:=pigeon (by rw[ea,hw]:awL ds (cD ds c) (c::r)=true) hu;simp only[Bool.true_and];by_cases hl:(c::r).length=nCs ds (cD ds c)
     ·
      simp [hl]
     ·
      have:(c::r).length < nCs ds (cD ds c):=by omega
      rw[decide_eq_false hl,decide_eq_true this];rfl
 ·
  rw[if_neg hz]
  have hA:∀ x ∈ P++[z],x.length≠0:=fun x hx=>by
   rcases List.mem_append.1 hx with hx|hx
   ·
    exact hP x hx
   ·
    simp at hx;rw[hx];exact hz
  cases hA2:P++[z] with
  | nil=>simp at hA2
  | cons c r =>
   rw[hA2] at hA hf;have hc:=hA c (List.mem_cons_self ..);have hcd:=hf c (List.mem_cons_self ..) hc
   have hd:dtG ds (-1) (c::r)=if awL ds (cD ds c) r=true then cD ds c else -1:=by
    simp only[dtG,if_neg hc];rw[if_neg (by omega)];have:=dtG_run ds r [] _ hcd (fun x hx=>⟨hA x (List.mem_cons_of_mem _ hx),hf x (List.mem_cons_of_mem _ hx) (hA x (List.mem_cons_of_mem _ hx))⟩) (fun x hx=>by cases hx);rw[List.append_nil] at this;exact this
   unfold awC amsV;simp only[]
   have hrun:=fun n=>rsL_run n (c::r) [] [] 0 hA
   simp only[List.append_nil] at hrun;rw[hd,hrun]
   have ea:awL ds (cD ds c) (c::r)=awL ds (cD ds c) r:=by simp [awL,hcd]
   cases hw:awL ds (cD ds c) r with
   | false=>rw[ea,hw];simp
   | true =>
    rw[ea,hw];simp only[if_true,decide_eq_true hcd,Bool.true_and,rsL,Bool.not_false,Bool.false_and,Bool.false_or,Nat.zero_add]
    cases hu:unV [] (c::r) <;> simp
def HdC (w wp:World) (b off:Nat) (z:List Int) (e0:Option Addr) (f0 d0:Nat) (t1:Option Addr) (r1 s1:Nat) (h2k:Int) (h3k:Int) (t4:Option Addr) (r4 s4:Nat) (t5:Option Addr) (r5 s5:Nat) (t6:Option Addr) (r6 s6:Nat) (t7:Option Addr) (r7 s7:Nat) (t8:Option Addr) (r8 s8:Nat):Prop:=(w.cell? ⟨b,off,none⟩=some (.slice e0 f0 d0)∧w.cell? ⟨b,off+1,none⟩=some (.slice t1 r1 s1)∧w.cell? ⟨b,off+2,none⟩=some (.int .i64 h2k)∧w.cell? ⟨b,off+3,none⟩=some (.int .i64 h3k)∧w.cell? ⟨b,off+4,none⟩=some (.slice t4 r4 s4)∧w.cell? ⟨b,off+5,none⟩=some (.slice t5 r5 s5)∧w.cell? ⟨b,off+6,none⟩=some (.slice t6 r6 s6)∧w.cell? ⟨b,off+7,none⟩=some (.slice t7 r7 s7)∧w.cell? ⟨b,off+8,none⟩=some (.slice t8 r8 s8))∧RdB wp e0 f0 z
theorem InGE.head {w wp:World}:∀ {g:GE} {b off i:Nat},InGE w wp true g b off→i < g.len→∃ (z:List Int) (e0:Option Addr) (f0 d0:Nat) (t1:Option Addr) (r1 s1:Nat) (h2k:Int) (h3k:Int) (t4:Option Addr) (r4 s4:Nat) (t5:Option Addr) (r5 s5:Nat) (t6:Option Addr) (r6 s6:Nat) (t7:Option Addr) (r7 s7:Nat) (t8:Option Addr) (r8 s8:Nat),(hds g)[i]? = some z∧HdC w wp b (off+i * 9) z e0 f0 d0 t1 r1 s1 h2k h3k t4 r4 s4 t5 r5 s5 t6 r6 s6 t7 r7 s7 t8 r8 s8
 | .nil,_,_,i,_,h=>by simp [GE.len] at h
 | .cons hc hv p k a r,b,off,0,h,_=>by
  obtain ⟨e0,q0,d0,e1,q1,d1,a1,l1,c1,a2,l2,c2,a3,l3,c3,a4,l4,c4,a5,l5,c5,⟨m0,m1⟩,hgd,⟨k0,k1,k2,k3,k4,k5,k6⟩,-,-⟩:=h.alt;exact ⟨hc,e0,q0,d0,e1,q1,d1,p.k,p.n,a1,l1,c1,a2,l2,c2,a3,l3,c3,a4,l4,c4,a5,l5,c5,rfl,⟨by simpa using m0,by simpa using m1,by simpa using k0,by simpa using k1,by simpa using k2,by simpa using k3,by simpa using k4,by simpa using k5,by simpa using k6⟩,hgd.1⟩
 | .cons hc hv p k a r,b,off,i+1,h,hi=>by
  obtain ⟨e0,q0,d0,e1,q1,d1,a1,l1,c1,a2,l2,c2,a3,l3,c3,a4,l4,c4,a5,l5,c5,-,-,-,-,hT⟩:=h.alt;obtain ⟨z,f0,f1,f2,t1,r1,s1,h2k,h3k,t4,r4,s4,t5,r5,s5,t6,r6,s6,t7,r7,s7,t8,r8,s8,g0,g1⟩:=InGE.head hT (i:=i) (by simp [GE.len] at hi;omega);exact ⟨z,f0,f1,f2,t1,r1,s1,h2k,h3k,t4,r4,s4,t5,r5,s5,t6,r6,s6,t7,r7,s7,t8,r8,s8,by simpa [hds] using g0,by rw[show off+(i+1) * 9=off+9+i * 9 by omega];exact g1⟩
theorem HdC.le {w wp u up:World} {b off:Nat} {z:List Int} {e0:Option Addr} {f0 d0:Nat} {t1:Option Addr} {r1 s1:Nat} {h2k:Int} {h3k:Int} {t4:Option Addr} {r4 s4:Nat} {t5:Option Addr} {r5 s5:Nat} {t6:Option Addr} {r6 s6:Nat} {t7:Option Addr} {r7 s7:Nat} {t8:Option Addr} {r8 s8:Nat} (h:HdC w wp b off z e0 f0 d0 t1 r1 s1 h2k h3k t4 r4 s4 t5 r5 s5 t6 r6 s6 t7 r7 s7 t8 r8 s8) (k:CLe w u) (k2:CLe wp up):HdC u up b off z e0 f0 d0 t1 r1 s1 h2k h3k t4 r4 s4 t5 r5 s5 t6 r6 s6 t7 r7 s7 t8 r8 s8 :=
 ⟨⟨k _ _ h.1.1,k _ _ h.1.2.1,k _ _ h.1.2.2.1,k _ _ h.1.2.2.2.1,k _ _ h.1.2.2.2.2.1,k _ _ h.1.2.2.2.2.2.1,k _ _ h.1.2.2.2.2.2.2.1,k _ _ h.1.2.2.2.2.2.2.2.1,k _ _ h.1.2.2.2.2.2.2.2.2⟩,h.2.le k2⟩
theorem cD_of {ds:List Da} {z:List Int} {a b:Int} (h:cIx z ds 0=(a,b)):cD ds z=a:=by unfold cD;rw[h]
theorem data_cells {w:World} {ds:List Da} {a:Option Addr} {l:Nat} {d:Int} {z:List Int} (h:SlDa w a l ds) (hd:0≤cD ds z) (e:cD ds z=d) :
  ∃ (j b o:Nat) (a2:Option Addr) (l2 c2:Nat),d=(j:Int)∧a=some ⟨b,o,none⟩∧j < l∧w.cell? ⟨b,o+j * 3+2,none⟩=some (.slice a2 l2 c2)∧nCs ds d=l2∧l2≤9223372036854775807:=by
 obtain ⟨j,x,e1,e2,-⟩:=cIx_mem (z:=z) (ds:=ds) (i:=0) hd
 have hj:d=(j:Int):=by rw[← e];show (cIx z ds 0).1=_;rw[e1,Nat.zero_add]
 have hjl:=(List.getElem?_eq_some_iff.1 e2).1;rcases h.cases with ⟨r1,r2⟩|⟨b,o,rfl,hin,hpos⟩
 ·
  subst r2;simp at hjl
 obtain ⟨x',a1,n1,c1,a2,l2,c2,g0,-,-,g3,-,g5⟩:=hin.nth hjl;rw[e2] at g0;obtain rfl:=Option.some.inj g0;exact ⟨j,b,o,a2,l2,c2,hj,rfl,by have:=h.1;omega,g3,by unfold nCs;rw[hj,Int.toNat_natCast,e2];exact g5.1,g5.2.1⟩
theorem awC_no {ds:List Da} {c:List Int} {r:List (List Int)} {wl:Bool} (h:awL ds (cD ds c) (c::r)=false):awC ds (c::r) wl=false:=by unfold awC;simp only[];rw[h];rfl
theorem awL_app (ds:List Da) (d:Int):∀ A B:List (List Int),awL ds d (A++B)=(awL ds d A && awL ds d B)
 | [],B=>by simp [awL]
 | x::A,B=>by simp only[List.cons_append,awL,awL_app ds d A B,Bool.and_assoc]
theorem armsWholeT (ds:List Da) (ad:Option Addr) (ld cd:Nat) (g:GE) (a:Option Addr) (l c:Nat) (w:World) (hD:SlDa w ad ld ds) (h:SlGE w true a l c g) (hp:0 < l) (hl:l≤1048576) :
  Calls Tryz.prog 81 #[.slice ad ld cd,.slice a l c] w fun e u=>e = .returned (.bool (awV ds (hds g)))∧w.grownBy u none:=by
 have hfl:=h.1;have hlc:=h.2.2.1.1;rcases h.cases with ⟨r1,r2⟩|⟨b,o,rfl,hin,-⟩
 ·
  omega
 obtain ⟨z,e0,f0,d0,t1,r1,s1,h2k,h3k,t4,r4,s4,t5,r5,s5,t6,r6,s6,t7,r7,s7,t8,r8,s8,hz,⟨kz,-⟩,rz⟩:=hin.head (i:=l - 1) (by omega);clear t1 r1 s1 h2k h3k t4 r4 s4 t5 r5 s5 t6 r6 s6 t7 r7 s7 t8 r8 s8
 have hlast:(hds g).getLastD []=z:=by
  have hl2:=hds_len g;rw[List.getLastD_eq_getLast?,List.getLast?_eq_getElem?,hl2,hfl,hz];rfl
 obtain ⟨wl,m,hwl,hm⟩:∃ (wl:Bool) (m:Nat),((f0:Int) == 0)=wl∧m=if wl then l - 1 else l:=⟨_,_,rfl,rfl⟩;have hzl:=rz.1.1
 have hml:m≤l:=by rw[hm];split <;> omega
 have EV:Hid (awV ds (hds g)=awC ds ((hds g).take m) wl):=by
  show _=_
  unfold awV;rw[hlast];have hl2:=hds_len g
  cases wl with
  | true =>
   simp at hwl;rw[if_pos (by omega),hm,if_pos rfl,List.dropLast_eq_take,hl2,hfl]
  | false =>
   simp at hwl;rw[if_neg (by omega),hm];simp only[Bool.false_eq_true,if_false];rw[List.take_of_length_le (by omega)]
 have hcl:((hds g).take m).length=m:=by have:=hds_len g;simp;omega
 have HC:Hid (∀ i,i < m→∃ (x:List Int) (e1:Option Addr) (f1 d1:Nat) (t1:Option Addr) (r1 s1:Nat) (h2k:Int) (h3k:Int) (t4:Option Addr) (r4 s4:Nat) (t5:Option Addr) (r5 s5:Nat) (t6:Option Addr) (r6 s6:Nat) (t7:Option Addr) (r7 s7:Nat) (t8:Option Addr) (r8 s8:Nat),((hds g).take m)[i]? = some x∧HdC w w b (o+i * 9) x e1 f1 d1 t1 r1 s1 h2k h3k t4 r4 s4 t5 r5 s5 t6 r6 s6 t7 r7 s7 t8 r8 s8):=fun i hi=>by
  obtain ⟨x,e1,f1,d1,t1,r1,s1,h2k,h3k,t4,r4,s4,t5,r5,s5,t6,r6,s6,t7,r7,s7,t8,r8,s8,q1,q2⟩:=hin.head (i:=i) (by omega);exact ⟨x,e1,f1,d1,t1,r1,s1,h2k,h3k,t4,r4,s4,t5,r5,s5,t6,r6,s6,t7,r7,s7,t8,r8,s8,by rw[List.getElem?_take_of_lt hi];exact q1,q2⟩
 have HIN:Hid (InGE w w true g b o∧SlDa w ad ld ds):=⟨hin,hD⟩
 have hm2:(wl=true∧m=l - 1)∨(wl=false∧m=l):=by cases wl <;> simp_all
 have hlm:(l:Int) - 1=((l - 1:Nat):Int):=by omega
 have hlt1:((l - 1:Nat):Int) < (l:Int):=by omega
 clear hin hD h hz hlast hm rz hzl;generalize (hds g).take m=cs at *;have HM:Hid (l - 1≤c):=(by omega:l - 1≤c);obtain ⟨l',hl'⟩:∃ l',l' = l - 1:=⟨_,rfl⟩;rw[← hl'] at kz hlm hlt1 hm2 HM
 have hl'l:l' < l:=by omega
 clear hl';go_enter Tryz.func81,Tryz.ntmps81;go_upto_if 27 with fail
 go_cut [1] (fun s wx=>s = .slice (some ⟨b,o,none⟩) m c∧w=wx)
 case first =>
  rcases hm2 with ⟨rfl,rfl⟩|⟨rfl,rfl⟩
  ·
   have hmc:m≤c:=HM.out;go_wp2;go_meet
   case rel=>exact ⟨rfl,rfl⟩
  ·
   go_wp2;go_meet
   case rel=>exact ⟨rfl,rfl⟩
 case rest =>
 obtain ⟨rfl,rfl⟩:=hcut;clear hm2 hlm hlt1 kz HM hl'l hlc;by_cases hm0:m=0
 ·
  have E0:Hid (awV ds (hds g)=false):=by show _=_;rw[EV.out,List.eq_nil_of_length_eq_zero (by omega:cs.length=0)];rfl
  subst hm0;go_wp2;go_ret;exact ⟨by rw[E0.out];rfl,grf _ _⟩
 have hm0':¬ (m:Int)=0:=by omega
 obtain ⟨c0,e1,f1,d1,t1,r1,s1,h2k,h3k,t4,r4,s4,t5,r5,s5,t6,r6,s6,t7,r7,s7,t8,r8,s8,hc0,⟨kc0,-⟩,rc0⟩:=HC.out 0 (by omega);clear t1 r1 s1 h2k h3k t4 r4 s4 t5 r5 s5 t6 r6 s6 t7 r7 s7 t8 r8 s8
 obtain ⟨r0,hr0⟩:∃ r0,cs=c0::r0:=by
  cases cs with
  | nil=>simp at hc0
  | cons x r=>simp at hc0;subst hc0;exact ⟨r,rfl⟩
 rw[Nat.zero_mul,Nat.add_zero] at kc0;have C0:Hid _:=findConT ds ad ld cd c0 e1 f1 d1 w HIN.out.2 rc0;have EC:Hid (cs=c0::r0∧awV ds (hds g)=awC ds (c0::r0) wl):=⟨hr0,by rw[EV.out,hr0]⟩
 have hlt0:(0:Int) < (m:Int):=by omega
 clear hc0 rc0 hr0 EV;go_wp2_with fail;refine Calls.mono C0.out ?_;rintro e u ⟨he,hg⟩
 obtain ⟨hv,he2,hhv⟩:∃ hv:Int,(∃ k0 b0,e = .returned (.tuple #[.int .i64 hv,.int .i64 k0,.bool b0]))∧(0≤cD ds c0→hv=cD ds c0):=by
  rcases he with ⟨h1,rfl⟩|⟨j,k,h1,rfl⟩
  ·
   exact ⟨0,⟨_,_,rfl⟩,fun h=>by rw[cD_of h1] at h;omega⟩
  ·
   exact ⟨j,⟨_,_,rfl⟩,fun _=>(cD_of h1).symm⟩
 obtain ⟨k0,b0,rfl⟩:=he2;have HV:Hid (w.grownBy u none∧(0≤cD ds c0→hv=cD ds c0)):=⟨hg,hhv⟩;clear he hg hhv C0 kc0 hlt0;obtain ⟨i0,hi,hz0,hz1,hz2⟩:=info_parts infoBy;simp only[];go_wp2
 go_loopw [10,46] (fun v i wr=>∃ (j:Nat) (P R:List (List Int)) (av:Option Addr) (cv:Nat) (vs:List Value),j≤m∧i = .int .i64 j∧v = .slice av j cv∧P.length=j∧Hid (w.grownBy wr none∧OwV wr 23 w.heap.size av j cv vs∧RdVs w vs P∧P++R=cs∧awL ds (cD ds c0) P=true)) (fun _ i _=>m - (intOf i).toNat)
 case atStart=>exact ⟨0,[],cs,none,0,[],Nat.zero_le _,rfl,rfl,rfl,HV.out.1,⟨rfl,Nat.le_refl _,.inl ⟨rfl,rfl⟩⟩,trivial,rfl,rfl⟩
 case round =>
  obtain ⟨j,P,R,av,cv,vs,hj,rfl,rfl,hPl,HR⟩:=hrel;by_cases hlt:j < m
  ·
   obtain ⟨hg,hO,hV,hPR,hA⟩:=HR.out;obtain ⟨x,e9,f9,d9,t1,r1,s1,h2k,h3k,t4,r4,s4,t5,r5,s5,t6,r6,s6,t7,r7,s7,t8,r8,s8,hx9,hcx⟩:=HC.out j hlt
   obtain ⟨R',rfl⟩:∃ R',R=x::R':=by
    rw[← hPR,List.getElem?_append_right (by omega),hPl,Nat.sub_self] at hx9
    cases R with
    | nil=>simp at hx9
    | cons y R'=>simp at hx9;subst hx9;exact ⟨R',rfl⟩
   obtain ⟨⟨y0,y1,y2,y3,y4,y5,y6,y7,y8⟩,hrx⟩:=hcx.le (CLe.grown hg) (fun _ _ h=>h);have ga:=gal wr (.cells #[.slice e9 f9 d9,.slice t1 r1 s1,.int .i64 h2k,.int .i64 h3k,.slice t4 r4 s4,.slice t5 r5 s5,.slice t6 r6 s6,.slice t7 r7 s7,.slice t8 r8 s8] 87) none;have ba:=heap_alloc_new wr (.cells #[.slice e9 f9 d9,.slice t1 r1 s1,.int .i64 h2k,.int .i64 h3k,.slice t4 r4 s4,.slice t5 r5 s5,.slice t6 r6 s6,.slice t7 r7 s7,.slice t8 r8 s8] 87);have gg:=gtr hg ga;have CC:Hid _:=findConT ds ad ld cd x e9 f9 d9 _ (HIN.out.2.none gg) (hrx.none gg);have FX:Hid (w.grownBy (wr.alloc (.cells #[.slice e9 f9 d9,.slice t1 r1 s1,.int .i64 h2k,.int .i64 h3k,.slice t4 r4 s4,.slice t5 r5 s5,.slice t6 r6 s6,.slice t7 r7 s7,.slice t8 r8 s8] 87)) none∧(wr.alloc (.cells #[.slice e9 f9 d9,.slice t1 r1 s1,.int .i64 h2k,.int .i64 h3k,.slice t4 r4 s4,.slice t5 r5 s5,.slice t6 r6 s6,.slice t7 r7 s7,.slice t8 r8 s8] 87)).heap[wr.heap.size]? = some (Obj.cells #[.slice e9 f9 d9,.slice t1 r1 s1,.int .i64 h2k,.int .i64 h3k,.slice t4 r4 s4,.slice t5 r5 s5,.slice t6 r6 s6,.slice t7 r7 s7,.slice t8 r8 s8] 87)∧OwV (wr.alloc (.cells #[.slice e9 f9 d9,.slice t1 r1 s1,.int .i64 h2k,.int .i64 h3k,.slice t4 r4 s4,.slice t5 r5 s5,.slice t6 r6 s6,.slice t7 r7 s7,.slice t8 r8 s8] 87)) 23 w.heap.size av j cv vs∧RdVs w vs P∧P++x::R' = cs∧awL ds (cD ds c0) P=true∧RdB w e9 f9 x):=⟨gg,ba,hO.none ga,hV,hPR,hA,hrx⟩
   obtain ⟨⟨z0,z1,z2,z3,z4,z5,z6,z7,z8⟩,-⟩:=blkEA ba;clear hx9 hcx hrx hg hO hV hPR hA HR ga ba gg;go_wp2_with fail;refine Calls.mono CC.out ?_;rintro e u3 ⟨he,hgu⟩;have FY:Hid (w.grownBy u3 none∧u3.heap[wr.heap.size]? = some (Obj.cells #[.slice e9 f9 d9,.slice t1 r1 s1,.int .i64 h2k,.int .i64 h3k,.slice t4 r4 s4,.slice t5 r5 s5,.slice t6 r6 s6,.slice t7 r7 s7,.slice t8 r8 s8] 87)∧OwV u3 23 w.heap.size av j cv vs):=⟨gtr FX.out.1 hgu,(hgu.block _ (lt_of_block FX.out.2.1) (by simp)).trans FX.out.2.1,FX.out.2.2.1.none hgu⟩;clear CC hgu y0 y1 y2 y3 y4 y5 y6 y7 y8 z0 z1 z2 z3 z4 z5 z6 z7 z8;generalize wr.heap.size=p3 at *
   have hawx:awL ds (cD ds c0) [x]=false→awV ds (hds g)=false:=fun h0=>by
    rw[EC.out.2];refine awC_no ?_;rw[← EC.out.1,← FX.out.2.2.2.2.1,show P++x::R' = (P++[x])++R' by simp,awL_app,awL_app,h0,Bool.and_false,Bool.false_and]
   have HW:Hid _:=hawx;clear hawx;rcases he with ⟨h1,rfl⟩|⟨jx,kx,h1,rfl⟩
   ·
    have E1:Hid (awV ds (hds g)=false):=HW.out (by unfold awL;rw[cD_of h1];simp);clear h1;simp only[];go_wp2;go_ret;exact ⟨by rw[E1.out];rfl,FY.out.1⟩
   ·
    have hcx:cD ds x=(jx:Int):=cD_of h1;by_cases hne:(jx:Int)=hv
    ·
     have hc0:0≤cD ds c0:=by
      cases P with
      | nil =>
       have e:=FX.out.2.2.2.2.1;rw[EC.out.1] at e;simp at e;rw[← e.1,hcx];omega
      | cons y P =>
       have e:=FX.out.2.2.2.2.1;rw[EC.out.1] at e;simp at e;have:=awL_mem FX.out.2.2.2.2.2.1 y (List.mem_cons_self ..);rw[← e.1];exact this.1
     have hh:=HV.out.2 hc0
     have FZ:Hid (awL ds (cD ds c0) (P++[x])=true):=by
      show _=_
      rw[awL_app,FX.out.2.2.2.2.2.1,Bool.true_and];simp only[awL,Bool.and_true,Bool.and_eq_true,decide_eq_true_eq];omega
     obtain ⟨⟨z0,z1,z2,z3,z4,z5,z6,z7,z8⟩,-⟩:=blkEA FY.out.2.1;have gp:=gal u3 (.cells #[.slice e9 f9 d9] 23) none;have NW:Hid _:=news1 (one1S (heap_alloc_new u3 (.cells #[.slice e9 f9 d9] 23)));have NP:Hid (w.grownBy (u3.alloc (.cells #[.slice e9 f9 d9] 23)) none∧OwV (u3.alloc (.cells #[.slice e9 f9 d9] 23)) 23 w.heap.size av j cv vs∧w.heap.size≤(u3.alloc (.cells #[.slice e9 f9 d9] 23)).heap.size):=⟨gtr FY.out.1 gp,FY.out.2.2.none gp,(gtr FY.out.1 gp).size⟩;clear h1 hcx hh gp;subst hne;simp only[];go_wp2_with (at_builtin;go_must (refine wpList_pushV rfl _ _ 85 rfl 23 i0 _ Tryz.underlying85 hi hz0 hz1 hz2 rfl w.heap.size av j cv vs rfl NP.out.2.1 NP.out.2.2 (by omega) ⟨u3.heap.size,0,none⟩ rfl (.slice e9 f9 d9) rfl NW.out ?_);intro a3 c3 u4 h1 h2);have FQ:Hid (w.grownBy u4 none∧OwV u4 23 w.heap.size a3 (j+1) c3 (vs++[.slice e9 f9 d9])):=⟨h2 w NP.out.1 (Nat.le_refl _),h1⟩;clear h1 h2 NW NP z0 z1 z2 z3 z4 z5 z6 z7 z8
     go_roundw
     case rel=>exact ⟨j+1,P++[x],R',a3,c3,_,by omega,by go_num,rfl,by simp [hPl],FQ.out.1,FQ.out.2,FX.out.2.2.2.1.app ⟨e9,f9,d9,rfl,FX.out.2.2.2.2.2.2⟩,by rw[List.append_assoc];exact FX.out.2.2.2.2.1,FZ.out⟩
     case measure=>simp [intOf];omega
    ·
     have E1:Hid (awV ds (hds g)=false):=HW.out (by
      simp only[awL,Bool.and_true];rw[Bool.and_eq_false_iff];refine .inr (decide_eq_false (fun e=>hne ?_))
      have h9:0≤cD ds c0:=by omega
      have:=HV.out.2 h9
      omega)
     clear h1 hcx;simp only[];go_wp2;go_ret;exact ⟨by rw[E1.out];rfl,FY.out.1⟩
  ·
   obtain rfl:j=m:=by omega
   obtain ⟨hg,hO,hV,hPR,hA⟩:=HR.out
   obtain rfl:R=[]:=by
    have:=congrArg List.length hPR;rw[lA,hcl,hPl] at this;exact List.eq_nil_of_length_eq_zero (by omega)
   rw[List.append_nil] at hPR;have hP0:P=c0::r0:=hPR.trans EC.out.1;have hc0:0≤cD ds c0:=(awL_mem hA c0 (by rw[hP0];exact List.mem_cons_self ..)).1;have hh:=HV.out.2 hc0;obtain ⟨jh,bh,oh,a2,l2,c2,ej,rfl,hjl,k2,hnl,hl2⟩:=data_cells (HIN.out.2.none hg) hc0 hh.symm;have CU:Hid _:=allUnT P av j cv wr (hO.read (hV.le (CLe.grown hg)) (by omega)) hO.2.1
   have EQ:Hid (awV ds (hds g)=(unV [] P && (decide (j=l2) != wl))∧w.grownBy wr none):=⟨by
    rw[EC.out.2];unfold awC;simp only[]
    rw[← hP0,← hh,hh,hA,Bool.true_and,hPl,← hh,hnl],hg⟩
   have hjl':(jh:Int) < (ld:Int):=by omega
   clear HR hO hV hA hg hc0 hh hnl;subst ej;by_cases hjl2:j=l2
   ·
    have b2:((j:Int) == (l2:Int))=true:=by simp [hjl2]
    have E2:Hid (decide (j=l2)=true):=by show _=_;simp [hjl2]
    clear hjl2;go_wp2_with fail;refine Calls.mono CU.out ?_;rintro e u4 ⟨he,hgu⟩;subst he;have G4:Hid (w.grownBy u4 none):=gtr EQ.out.2 hgu
    have E4:Hid (awV ds (hds g)=(unV [] P && (true != wl))):=by show _=_;rw[EQ.out.1,E2.out]
    clear CU hgu k2 EQ E2;generalize unV [] P=ub at *;simp only[]
    cases ub <;> cases wl <;> (go_wp2;go_ret;exact ⟨by rw[E4.out];rfl,G4.out⟩)
   ·
    have b2:((j:Int) == (l2:Int))=false:=by simp;omega
    have E2:Hid (decide (j=l2)=false):=by show _=_;simp [hjl2]
    clear hjl2;go_wp2_with fail;refine Calls.mono CU.out ?_;rintro e u4 ⟨he,hgu⟩;subst he;have G4:Hid (w.grownBy u4 none):=gtr EQ.out.2 hgu
    have E4:Hid (awV ds (hds g)=(unV [] P && (false != wl))):=by show _=_;rw[EQ.out.1,E2.out]
    clear CU hgu k2 EQ E2;generalize unV [] P=ub at *;simp only[]
    cases ub <;> cases wl <;> (go_wp2;go_ret;exact ⟨by rw[E4.out];rfl,G4.out⟩)
def hasA (p:PE) (kids alts:GE):Prop:=(p.k=16→0 < alts.len)∧alts.len≤1048576
theorem armsStand1T (ds:List Da) (pd:Nat) (ad:Option Addr) (ld cd:Nat) (p:PE) (kids alts:GE) (a1:Option Addr) (l1 c1:Nat) (a2:Option Addr) (l2 c2:Nat) (a3:Option Addr) (l3 c3:Nat) (a4:Option Addr) (l4 c4:Nat) (a5:Option Addr) (l5 c5:Nat) (w:World) (hD:DsB w pd ds ad ld cd) (hq:hasA p kids alts) (h:NdE w p kids alts a1 l1 c1 a2 l2 c2 a3 l3 c3 a4 l4 c4 a5 l5 c5) :
  Calls Tryz.prog 80 #[.agg #[.int .i64 p.k,.int .i64 p.n,.slice a1 l1 c1,.slice a2 l2 c2,.slice a3 l3 c3,.slice a4 l4 c4,.slice a5 l5 c5],.pointer (some ⟨pd,0,none⟩)] w fun e u=>e = .returned (.bool (awE ds p kids alts))∧w.grownBy u none:=by
 have g0:=gal w (.cells #[.int .i64 p.k,.int .i64 p.n,.slice a1 l1 c1,.slice a2 l2 c2,.slice a3 l3 c3,.slice a4 l4 c4,.slice a5 l5 c5] 36) none;have b0:=heap_alloc_new w (.cells #[.int .i64 p.k,.int .i64 p.n,.slice a1 l1 c1,.slice a2 l2 c2,.slice a3 l3 c3,.slice a4 l4 c4,.slice a5 l5 c5] 36);have hk5:=h.2.2.2.2.1;have x0:=hD.cell;have hpl:=lt_of_block hD.1;have HH:Hid (NdE w p kids alts a1 l1 c1 a2 l2 c2 a3 l3 c3 a4 l4 c4 a5 l5 c5∧SlDa w ad ld ds∧hasA p kids alts):=⟨h,hD.2,hq⟩;have G0:Hid _:=g0;obtain ⟨⟨y0,y1,y2,y3,y4,y5,y6⟩,-⟩:=blkE b0;clear b0 h hD hq;by_cases h16:p.k=16
 ·
  have EV:Hid (awE ds p kids alts=awV ds (hds alts)):=by show _=_;unfold awE;simp [h16]
  have C0:Hid _:=armsWholeT ds ad ld cd alts a5 l5 c5 _ (HH.out.2.1.none g0) (HH.out.1.2.2.2.2.none g0) (by have:=HH.out.2.2.1 h16;omega) (by have:=HH.out.2.2.2;omega)
  have b16:(p.k == 16)=true:=by simpa using h16
  have hnn:(p.k != 16)=false:=by simp [h16]
  have hdd:decide (p.k=16)=true:=by simp [h16]
  clear h16 g0;go_enter Tryz.func80,Tryz.ntmps80;go_wp2_with fail;refine Calls.mono C0.out ?_;rintro e u ⟨he,hg⟩;subst he;have G:Hid (w.grownBy u none):=gtr G0.out hg;clear C0 hg y0 y1 y2 y3 y4 y5 y6 x0;generalize awV ds (hds alts)=bb at *;simp only[];go_wp2;go_ret;exact ⟨by rw[EV.out];rfl,G.out⟩
 ·
  have EV:Hid (awE ds p kids alts=true):=by show _=_;unfold awE;simp [h16]
  go_enter Tryz.func80,Tryz.ntmps80;go_wp2;go_ret;exact ⟨by rw[EV.out];rfl,G0.out⟩
theorem ok16 {p:PE} {kids alts:GE} (h:okN p kids alts=true):p.k=16→0 < alts.len:=by
 intro h16;obtain ⟨k,n,nm,ar,lt⟩:=p;simp only at h16;subst h16;by_cases hn:n=0
 ·
  subst hn;unfold okN formR at h;simp only[form16] at h;rw[Bool.and_eq_true] at h;have h2:=h.2;simp only[Option.getD_some] at h2;rw[fit6] at h2;simp only[Bool.and_eq_true,decide_eq_true_eq] at h2;omega
 ·
  unfold okN at h;rw[form16_no n hn] at h;simp at h
theorem allA:∀ (g:GE) (d:Nat),okG g d=true→g.size≤1048576→allQ hasA g
 | .nil,_,_,_=>trivial
 | .cons _ _ p k a r,d,h,hs=>by
  simp only[okG,Bool.and_eq_true] at h;obtain ⟨⟨⟨⟨-,hN⟩,hk⟩,ha⟩,hr⟩:=h;simp only[GE.size] at hs;have:=a.len_le;exact ⟨⟨⟨ok16 hN,by omega⟩,allA k _ hk (by omega),allA a _ ha (by omega)⟩,allA r _ hr (by omega)⟩
theorem armsStandT (ds:List Da) (ad:Option Addr) (ld cd:Nat) (p:PE) (kids alts:GE) (a1:Option Addr) (l1 c1:Nat) (a2:Option Addr) (l2 c2:Nat) (a3:Option Addr) (l3 c3:Nat) (a4:Option Addr) (l4 c4:Nat) (a5:Option Addr) (l5 c5:Nat) (w:World) (hD:SlDa w ad ld ds) (h:NdE w p kids alts a1 l1 c1 a2 l2 c2 a3 l3 c3 a4 l4 c4 a5 l5 c5) (hsz:kids.size+alts.size≤1048576) (hok:okE p kids alts 40=true) :
  Calls Tryz.prog 39 #[.slice ad ld cd,.agg #[.int .i64 p.k,.int .i64 p.n,.slice a1 l1 c1,.slice a2 l2 c2,.slice a3 l3 c3,.slice a4 l4 c4,.slice a5 l5 c5]] w fun e u=>e = .returned (.bool (evE (awE ds) p kids alts))∧w.grownBy u none:=by
 obtain ⟨b0,b1,bsz⟩:=alloc2_blocks w (.cells #[.slice ad ld cd] 32) (.cells #[.int .i64 p.k,.int .i64 p.n,.slice a1 l1 c1,.slice a2 l2 c2,.slice a3 l3 c3,.slice a4 l4 c4,.slice a5 l5 c5] 36);have g0:=grown_alloc (grown_alloc (grf w none) (.cells #[.slice ad ld cd] 32)) (.cells #[.int .i64 p.k,.int .i64 p.n,.slice a1 l1 c1,.slice a2 l2 c2,.slice a3 l3 c3,.slice a4 l4 c4,.slice a5 l5 c5] 36);have hB:DsB _ w.heap.size ds ad ld cd:=⟨b0,hD.none g0⟩
 have hQ:hasA p kids alts∧allQ hasA kids∧allQ hasA alts:=by
  unfold okE at hok;simp only[Bool.and_eq_true] at hok;have:=alts.len_le;exact ⟨⟨ok16 hok.1.1.2,by omega⟩,allA kids _ hok.1.2 (by omega),allA alts _ hok.2 (by omega)⟩
 have C0:Hid _:=everyPartT 80 w.heap.size (.inr rfl) (awE ds) hasA (kids.size+alts.size+1) p kids alts a1 l1 c1 a2 l2 c2 a3 l3 c3 a4 l4 c4 a5 l5 c5 _ (by omega) hsz hQ (h.none g0) (fun u hu p kids alts a1 l1 c1 a2 l2 c2 a3 l3 c3 a4 l4 c4 a5 l5 c5 hq h=>armsStand1T ds w.heap.size ad ld cd p kids alts a1 l1 c1 a2 l2 c2 a3 l3 c3 a4 l4 c4 a5 l5 c5 u (hB.none hu) hq h);have G0:Hid _:=g0;obtain ⟨⟨y0,y1,y2,y3,y4,y5,y6⟩,-⟩:=blkE b1;clear b0 b1 bsz g0 hD h hB hQ hok;go_enter Tryz.func39,Tryz.ntmps39;go_wp2_with fail;refine Calls.mono C0.out ?_;rintro e u ⟨he,hg⟩;subst he;have G:Hid (w.grownBy u none):=gtr G0.out hg;clear C0 hg y0 y1 y2 y3 y4 y5 y6;obtain ⟨bb,hbb⟩:∃ bb,evE (awE ds) p kids alts=bb:=⟨_,rfl⟩;have EB:Hid (evE (awE ds) p kids alts=bb):=hbb;rw[hbb];clear hbb;simp only[];go_wp2;go_ret;exact ⟨by rw[EB.out];rfl,G.out⟩
theorem l6dataT (ds:List Da) (ad:Option Addr) (ld cd:Nat) (g:GE) (a:Option Addr) (l c:Nat) (w:World) (hD:SlDa w ad ld ds) (h:SlGE w true a l c g) :
  Calls Tryz.prog 79 #[.slice ad ld cd,.slice a l c] w fun e u=>e = .returned (.int .i64 (dtG ds (-1) (hds g)))∧w.grownBy u none:=by
 have hl:=h.2.1;have hfl:=h.1;rcases h.cases with ⟨rfl,rfl⟩|⟨b,o,rfl,hin,hpos⟩
 ·
  go_enter Tryz.func79,Tryz.ntmps79;go_wp2;refine wp_loop_rounds 1 ?_;rw[rounds_succ];go_wp2;go_ret;exact ⟨rfl,grf _ _⟩
 have IN:Hid (InGE w w true g b o∧SlDa w ad ld ds):=⟨hin,hD⟩;clear hin h hD;go_enter Tryz.func79,Tryz.ntmps79;go_wp2
 go_loopw [5,6] (fun v i wr=>∃ (j:Nat) (R:GE) (d:Int),j≤l∧i = .int .i64 j∧v = .int .i64 d∧R.len+j=l∧Hid (w.grownBy wr none∧InGE w w true R b (o+j * 9)∧dtG ds (-1) (hds g)=dtG ds d (hds R))) (fun _ i _=>l - (intOf i).toNat)
 case atStart=>exact ⟨0,g,-1,Nat.zero_le _,rfl,rfl,by omega,grf _ _,by simpa using IN.out.1,rfl⟩
 case round =>
  obtain ⟨j,R,d,hj,rfl,rfl,hRl,HR⟩:=hrel;by_cases hlt:j < l
  ·
   obtain ⟨q',hq'⟩:∃ q',R.len=q' + 1:=⟨R.len - 1,by omega⟩;obtain ⟨hc,hv,pp,kk,aa,R',rfl,hR'⟩:=GE.cons_of_len hq';obtain ⟨hg,hR,hv2⟩:=HR.out;obtain ⟨e0,f0,d0,e1,f1,d1,b1,m1,n1,b2,m2,n2,b3,m3,n3,b4,m4,n4,b5,m5,n5,⟨m0,-⟩,hgd,-,-,hT⟩:=hR.alt;rw[show o+j * 9+9=o+(j+1) * 9 by omega] at hT;simp only[hds,dtG] at hv2;simp only[GE.len] at hRl;have hf0:=hgd.1.1.1;have m0:=hg.cell m0 (by simp);have CC:Hid _:=l5conT ds ad ld cd hc e0 f0 d0 wr (IN.out.2.none hg) (hgd.1.none hg);have FX:Hid (w.grownBy wr none∧InGE w w true R' b (o+(j+1) * 9)∧dtG ds (-1) (hds g)=if hc.length=0 then dtG ds d (hds R') else if 0≤d∧cD ds hc≠d then -1 else dtG ds (cD ds hc) (hds R')):=⟨hg,hT,hv2⟩
   have hlt':(j:Int) < (l:Int):=by omega
   clear hg hR hv2 hT hgd HR hq';by_cases hz:f0=0
   ·
    have E2:Hid (dtG ds (-1) (hds g)=dtG ds d (hds R')):=by show _=_;rw[FX.out.2.2,if_pos (by omega)]
    subst hz;clear CC;go_wp2;go_roundw
    case rel=>exact ⟨j+1,R',d,by omega,by go_num,rfl,by omega,FX.out.1,FX.out.2.1,E2.out⟩
    case measure=>simp [intOf];omega
   have hz':¬ (f0:Int)=0:=by omega
   have E0:Hid (dtG ds (-1) (hds g)=if 0≤d∧cD ds hc≠d then -1 else dtG ds (cD ds hc) (hds R')):=by show _=_;rw[FX.out.2.2,if_neg (by omega)]
   clear hz;go_wp2_with fail;refine Calls.mono CC.out ?_;rintro e u ⟨he,hgu⟩;obtain ⟨x1,hx1⟩:∃ x1,(cIx hc ds 0).1=x1:=⟨_,rfl⟩;obtain ⟨x2,hx2⟩:∃ x2,(cIx hc ds 0).2=x2:=⟨_,rfl⟩;rw[hx1,hx2] at he;have EX:Hid (cD ds hc=x1):=hx1;subst he;have FY:Hid (w.grownBy u none):=gtr FX.out.1 hgu;clear CC hgu hx1 hx2 m0;simp only[];by_cases hd:0≤d
   ·
    have hdg:d ≥ 0:=hd;by_cases hx:x1=d
    ·
     have E3:Hid (dtG ds (-1) (hds g)=dtG ds x1 (hds R')):=by show _=_;rw[E0.out,EX.out,if_neg (by omega)]
     subst hx;go_wp2;go_roundw
     case rel=>exact ⟨j+1,R',x1,by omega,by go_num,rfl,by omega,FY.out,FX.out.2.1,E3.out⟩
     case measure=>simp [intOf];omega
    ·
     have E3:Hid (dtG ds (-1) (hds g) = -1):=by show _=_;rw[E0.out,EX.out,if_pos ⟨hd,hx⟩]
     go_wp2;go_ret;exact ⟨by rw[E3.out];rfl,FY.out⟩
   ·
    have hdg:¬ d ≥ 0:=hd
    have E3:Hid (dtG ds (-1) (hds g)=dtG ds x1 (hds R')):=by show _=_;rw[E0.out,EX.out,if_neg (fun h=>hd h.1)]
    go_wp2;go_roundw
    case rel=>exact ⟨j+1,R',x1,by omega,by go_num,rfl,by omega,FY.out,FX.out.2.1,E3.out⟩
    case measure=>simp [intOf];omega
  ·
   obtain rfl:j=l:=by omega
   obtain rfl:R = .nil:=GE.nil_of_len (by omega);have EV:Hid (dtG ds (-1) (hds g)=d∧w.grownBy wr none):=⟨HR.out.2.2,HR.out.1⟩;clear HR;go_wp2;go_ret;exact ⟨by rw[EV.out.1];rfl,EV.out.2⟩
theorem dtG_src (ds:List Da):∀ (hs:List (List Int)) (d:Int),0≤dtG ds d hs→dtG ds d hs=d∨∃ z,cD ds z=dtG ds d hs
 | [],d,_=>.inl rfl
 | c::r,d,h=>by
  simp only[dtG] at h ⊢;by_cases h0:c.length=0
  ·
   rw[if_pos h0] at h ⊢;exact dtG_src ds r d h
  ·
   rw[if_neg h0] at h ⊢;by_cases h1:0≤d∧cD ds c≠d
   ·
    rw[if_pos h1] at h;omega
   ·
    rw[if_neg h1] at h ⊢;rcases dtG_src ds r _ h with e|e
    ·
     exact .inr ⟨c,e.symm⟩
    ·
     exact .inr e
def L6B (ds:List Da) (ad:Option Addr) (ld cd M:Nat):Prop:=∀ (p:PE) (kids alts:GE) (a1:Option Addr) (l1 c1:Nat) (a2:Option Addr) (l2 c2:Nat) (a3:Option Addr) (l3 c3:Nat) (a4:Option Addr) (l4 c4:Nat) (a5:Option Addr) (l5 c5:Nat) (w:World),kids.size+alts.size < M→kids.size+alts.size≤1048576→NdE w p kids alts a1 l1 c1 a2 l2 c2 a3 l3 c3 a4 l4 c4 a5 l5 c5→SlDa w ad ld ds →
  Calls Tryz.prog 38 #[.slice ad ld cd,.agg #[.int .i64 p.k,.int .i64 p.n,.slice a1 l1 c1,.slice a2 l2 c2,.slice a3 l3 c3,.slice a4 l4 c4,.slice a5 l5 c5]] w fun e u=>e = .returned (.bool (l6aE ds p kids alts))∧w.grownBy u none
theorem l6bT_of (ds:List Da) (ad:Option Addr) (ld cd M:Nat) (ih:L6B ds ad ld cd M):L6B ds ad ld cd (M+1):=by
 intro p kids alts a1 l1 c1 a2 l2 c2 a3 l3 c3 a4 l4 c4 a5 l5 c5 w hM hsz h hD;have IH:Hid _:=ih;have g0:=gal w (.cells #[.int .i64 p.k,.int .i64 p.n,.slice a1 l1 c1,.slice a2 l2 c2,.slice a3 l3 c3,.slice a4 l4 c4,.slice a5 l5 c5] 36) none;have b0:=heap_alloc_new w (.cells #[.int .i64 p.k,.int .i64 p.n,.slice a1 l1 c1,.slice a2 l2 c2,.slice a3 l3 c3,.slice a4 l4 c4,.slice a5 l5 c5] 36);have hk4:=h.2.2.2.1.1;have hk5:=h.2.2.2.2.1;have hm4:=h.2.2.2.1.2.1;have hm5:=h.2.2.2.2.2.1;have HS:Hid (NdE w p kids alts a1 l1 c1 a2 l2 c2 a3 l3 c3 a4 l4 c4 a5 l5 c5∧SlDa w ad ld ds∧kids.size+alts.size < M+1∧kids.size+alts.size≤1048576):=⟨h,hD,hM,hsz⟩;have L0:Hid (w.grownBy (w.alloc (.cells #[.int .i64 p.k,.int .i64 p.n,.slice a1 l1 c1,.slice a2 l2 c2,.slice a3 l3 c3,.slice a4 l4 c4,.slice a5 l5 c5] 36)) none∧(w.alloc (.cells #[.int .i64 p.k,.int .i64 p.n,.slice a1 l1 c1,.slice a2 l2 c2,.slice a3 l3 c3,.slice a4 l4 c4,.slice a5 l5 c5] 36)).heap[w.heap.size]? = some (Obj.cells #[.int .i64 p.k,.int .i64 p.n,.slice a1 l1 c1,.slice a2 l2 c2,.slice a3 l3 c3,.slice a4 l4 c4,.slice a5 l5 c5] 36)):=⟨g0,b0⟩
 clear g0 b0 h hD ih hM hsz;go_enter Tryz.func38,Tryz.ntmps38;go_wp2;generalize w.alloc (.cells #[.int .i64 p.k,.int .i64 p.n,.slice a1 l1 c1,.slice a2 l2 c2,.slice a3 l3 c3,.slice a4 l4 c4,.slice a5 l5 c5] 36)=w0 at *;generalize w.heap.size=q0 at *;obtain ⟨T,hT⟩:∃ T,(!decide (p.k=16) || (baG ds alts && amsV ds (hds alts)))=T:=⟨_,rfl⟩;have ET:Hid (l6aE ds p kids alts=(baG ds kids && T)∧(!decide (p.k=16) || (baG ds alts && amsV ds (hds alts)))=T):=⟨by unfold l6aE;rw[hT],hT⟩;clear hT
 go_loopw [5] (fun i wr=>∃ (j:Nat) (R:GE),j≤l4∧i = .int .i64 j∧Hid (w.grownBy wr none∧wr.heap[q0]? = some (Obj.cells #[.int .i64 p.k,.int .i64 p.n,.slice a1 l1 c1,.slice a2 l2 c2,.slice a3 l3 c3,.slice a4 l4 c4,.slice a5 l5 c5] 36)∧TlK w a4 j l4 R∧R.size≤kids.size∧l6aE ds p kids alts=(baG ds R && T))) (fun i _=>l4 - (intOf i).toNat)
 case atStart=>exact ⟨0,kids,Nat.zero_le _,rfl,L0.out.1,L0.out.2,HS.out.1.2.2.2.1.tlK,Nat.le_refl _,ET.out.1⟩
 case round =>
  clear L0;obtain ⟨j,R,hj,rfl,HR⟩:=hrel;obtain ⟨⟨y0,y1,y2,y3,y4,y5,y6⟩,-⟩:=blkE HR.out.2.1;by_cases hlt:j < l4
  ·
   obtain ⟨hg,hbx,⟨hRl,hR⟩,hRs,hv⟩:=HR.out;obtain ⟨q',hq'⟩:∃ q',R.len=q' + 1:=⟨R.len - 1,by omega⟩;rcases hR with rfl|⟨b,o,ea,hin⟩
   ·
    simp [GE.len] at hq'
   obtain ⟨hc,hv2,pp,kk,aa,R',rfl,hR'⟩:=GE.cons_of_len hq';obtain ⟨-,b1,m1,n1,b2,m2,n2,b3,m3,n3,b4,m4,n4,b5,m5,n5,hcel,hnd,hR2⟩:=hin.kid;rw[show o+j * 7+7=o+(j+1) * 7 by omega] at hR2;simp only[GE.size] at hRs;simp only[GE.len] at hRl;rw[baG_cons] at hv;have CC:Hid _:=IH.out pp kk aa b1 m1 n1 b2 m2 n2 b3 m3 n3 b4 m4 n4 b5 m5 n5 wr (by have:=HS.out.2.2.1;omega) (by have:=HS.out.2.2.2;omega) (hnd.none hg) (HS.out.2.1.none hg);have HP:Hid (w.grownBy wr none∧wr.heap[q0]? = some (Obj.cells #[.int .i64 p.k,.int .i64 p.n,.slice a1 l1 c1,.slice a2 l2 c2,.slice a3 l3 c3,.slice a4 l4 c4,.slice a5 l5 c5] 36)∧InGE w w false R' b (o+(j+1) * 7)∧l6aE ds p kids alts=((l6aE ds pp kk aa && baG ds R') && T)∧R'.size≤kids.size):=⟨hg,hbx,hR2,hv,by omega⟩;obtain ⟨k0,k1,k2,k3,k4,k5,k6⟩:=hcel.le (CLe.grown hg);clear hg hbx hcel hnd hR2 hv HR hin hRs hq';subst ea;go_wp2_with fail;refine Calls.mono CC.out ?_;rintro e u5 ⟨he,hg⟩
   subst he;have FY:Hid (w.grownBy u5 none∧u5.heap[q0]? = some (Obj.cells #[.int .i64 p.k,.int .i64 p.n,.slice a1 l1 c1,.slice a2 l2 c2,.slice a3 l3 c3,.slice (some ⟨b,o,none⟩) l4 c4,.slice a5 l5 c5] 36)):=⟨gtr HP.out.1 hg,(hg.block _ (lt_of_block HP.out.2.1) (by simp)).trans HP.out.2.1⟩;clear CC hg y0 y1 y2 y3 y4 y5 y6 k0 k1 k2 k3 k4 k5 k6;simp only[]
   cases hq:l6aE ds pp kk aa with
   | false =>
    have EV:Hid (l6aE ds p kids alts=false):=by show _=_;rw[HP.out.2.2.2.1,hq];rfl
    clear hq;go_wp2;go_ret;exact ⟨by rw[EV.out];rfl,FY.out.1⟩
   | true =>
    have EV:Hid (l6aE ds p kids alts=(baG ds R' && T)):=by show _=_;rw[HP.out.2.2.2.1,hq];rfl
    clear hq;go_wp2;go_roundw
    case rel=>exact ⟨j+1,R',by omega,by go_num,FY.out.1,FY.out.2,⟨by omega,.inr ⟨b,o,rfl,HP.out.2.2.1⟩⟩,HP.out.2.2.2.2,EV.out⟩
    case measure=>simp [intOf];omega
  ·
   obtain rfl:j=l4:=by omega
   obtain ⟨hg,hbx,⟨hRl,-⟩,-,hv⟩:=HR.out;obtain rfl:R = .nil:=GE.nil_of_len (by omega);have L2:Hid (w.grownBy wr none∧wr.heap[q0]? = some (Obj.cells #[.int .i64 p.k,.int .i64 p.n,.slice a1 l1 c1,.slice a2 l2 c2,.slice a3 l3 c3,.slice a4 j c4,.slice a5 l5 c5] 36)∧l6aE ds p kids alts=T):=⟨hg,hbx,by rw[hv];rfl⟩;clear HR hg hbx hv hRl;by_cases h16:p.k=16
   case neg =>
    have EV:Hid (l6aE ds p kids alts=true):=by show _=_;rw[L2.out.2.2,← ET.out.2];simp [h16]
    go_wp2;go_ret;exact ⟨by rw[EV.out];rfl,L2.out.1⟩
   have b16:(p.k == 16)=true:=by simpa using h16
   have hnn:(p.k != 16)=false:=by simp [h16]
   have hdd:decide (p.k=16)=true:=by simp [h16]
   have C0:Hid _:=l6dataT ds ad ld cd alts a5 l5 c5 wr (HS.out.2.1.none L2.out.1) (HS.out.1.2.2.2.2.none L2.out.1);have L3:Hid (w.grownBy wr none∧wr.heap[q0]? = some (Obj.cells #[.int .i64 p.k,.int .i64 p.n,.slice a1 l1 c1,.slice a2 l2 c2,.slice a3 l3 c3,.slice a4 j c4,.slice a5 l5 c5] 36)∧l6aE ds p kids alts=(baG ds alts && amsV ds (hds alts))):=⟨L2.out.1,L2.out.2.1,by rw[L2.out.2.2,← ET.out.2,hdd];rfl⟩;clear h16 L2 ET;go_wp2_with fail;refine Calls.mono C0.out ?_;rintro e u ⟨he,hg⟩;obtain ⟨d,hd⟩:∃ d,dtG ds (-1) (hds alts)=d:=⟨_,rfl⟩;rw[hd] at he;subst he;have L4:Hid (w.grownBy u none∧u.heap[q0]? = some (Obj.cells #[.int .i64 p.k,.int .i64 p.n,.slice a1 l1 c1,.slice a2 l2 c2,.slice a3 l3 c3,.slice a4 j c4,.slice a5 l5 c5] 36)∧l6aE ds p kids alts=(baG ds alts && (decide (0≤d) && rsL (nCs ds d) false 0 [] (hds alts)))):=⟨gtr L3.out.1 hg,(hg.block _ (lt_of_block L3.out.2.1) (by simp)).trans L3.out.2.1,by rw[L3.out.2.2];unfold amsV;rw[hd]⟩
   have HDS:Hid (0≤d→∃ z,cD ds z=d):=fun h0=>by
    rcases dtG_src ds (hds alts) (-1) (by rw[hd];exact h0) with e|⟨z,e⟩
    ·
     omega
    ·
     exact ⟨z,e.trans hd⟩
   clear C0 hg L3 hd y0 y1 y2 y3 y4 y5 y6;simp only[];by_cases hd0:d < 0
   ·
    have EV:Hid (l6aE ds p kids alts=false):=by show _=_;rw[L4.out.2.2,decide_eq_false (by omega)];simp
    go_wp2;go_ret;exact ⟨by rw[EV.out];rfl,L4.out.1⟩
   have hd0':0≤d:=by omega
   have L5:Hid (w.grownBy u none∧u.heap[q0]? = some (Obj.cells #[.int .i64 p.k,.int .i64 p.n,.slice a1 l1 c1,.slice a2 l2 c2,.slice a3 l3 c3,.slice a4 j c4,.slice a5 l5 c5] 36)∧l6aE ds p kids alts=(baG ds alts && rsL (nCs ds d) false 0 [] (hds alts))):=⟨L4.out.1,L4.out.2.1,by rw[L4.out.2.2,decide_eq_true hd0',Bool.true_and]⟩;clear L4;generalize hn:nCs ds d=n at *;have HNN:Hid (nCs ds d=n):=hn;clear hn;go_wp2
   go_loopw [7,8,9] (fun vr vc i wr=>∃ (t cnt:Nat) (rs:Bool) (P:List (List Int)) (R:GE),t≤l5∧cnt≤t∧vr = .bool rs∧vc = .int .i64 cnt∧i = .int .i64 t∧P.length=t∧Hid (w.grownBy wr none∧wr.heap[q0]? = some (Obj.cells #[.int .i64 p.k,.int .i64 p.n,.slice a1 l1 c1,.slice a2 l2 c2,.slice a3 l3 c3,.slice a4 j c4,.slice a5 l5 c5] 36)∧TlA w a5 t l5 R∧R.size≤alts.size∧l6aE ds p kids alts=(baG ds R && rsL n rs cnt P (hds R))∧P++hds R=hds alts)) (fun _ _ i _=>l5 - (intOf i).toNat)
   case atStart=>exact ⟨0,0,false,[],alts,Nat.zero_le _,Nat.le_refl _,rfl,rfl,rfl,rfl,L5.out.1,L5.out.2.1,HS.out.1.2.2.2.2.tlA,Nat.le_refl _,L5.out.2.2,rfl⟩
   case round =>
    clear L5;obtain ⟨t,cnt,rs,P,R,ht,hct,rfl,rfl,rfl,hPl,HR⟩:=hrel;obtain ⟨⟨y0,y1,y2,y3,y4,y5,y6⟩,-⟩:=blkE HR.out.2.1;by_cases hltt:t < l5
    ·
     obtain ⟨hg,hbx,⟨hRl,hR⟩,hRs,hv,hPR⟩:=HR.out;obtain ⟨q',hq'⟩:∃ q',R.len=q' + 1:=⟨R.len - 1,by omega⟩;rcases hR with rfl|⟨b5,o5,ea,hin⟩
     ·
      simp [GE.len] at hq'
     obtain ⟨hc,hv2,pp,kk,aa,R',rfl,hR'⟩:=GE.cons_of_len hq';obtain ⟨e0,f0,d0,e1,f1,d1,b1,m1,n1,b2,m2,n2,b3,m3,n3,b4,m4,n4,b6,m6,n6,hhed,hgd,hcel,hnd,hR2⟩:=hin.alt;rw[show o5+t * 9+9=o5+(t+1) * 9 by omega] at hR2;simp only[GE.size] at hRs;simp only[GE.len] at hRl;rw[baG_cons] at hv;simp only[hds] at hv hPR;subst ea
     cases rs with
     | true =>
      have EV:Hid (l6aE ds p kids alts=false∧w.grownBy wr none):=⟨by rw[hv,rsL_rest,Bool.and_false],hg⟩;clear HR hg hbx hR2 hRs hv hPR hin hhed hgd hcel hnd hq';go_wp2;go_ret;exact ⟨by rw[EV.out.1];rfl,EV.out.2⟩
     | false =>
      have hf0:=hgd.1.1.1;have CC:Hid _:=IH.out pp kk aa b1 m1 n1 b2 m2 n2 b3 m3 n3 b4 m4 n4 b6 m6 n6 wr (by have:=HS.out.2.2.1;omega) (by have:=HS.out.2.2.2;omega) (hnd.none hg) (HS.out.2.1.none hg);have HP:Hid (w.grownBy wr none∧wr.heap[q0]? = some (Obj.cells #[.int .i64 p.k,.int .i64 p.n,.slice a1 l1 c1,.slice a2 l2 c2,.slice a3 l3 c3,.slice a4 j c4,.slice (some ⟨b5,o5,none⟩) l5 c5] 36)∧InGE w w true R' b5 (o5+(t+1) * 9)∧l6aE ds p kids alts=((l6aE ds pp kk aa && baG ds R') && rsL n false cnt P (hc::hds R'))∧R'.size≤alts.size∧P++hc::hds R' = hds alts∧HedE w b5 (o5+t * 9) (.slice e0 f0 d0) (.slice e1 f1 d1)∧RdB w e0 f0 hc):=⟨hg,hbx,hR2,hv,by omega,hPR,hhed,hgd.1⟩;obtain ⟨m0',m1'⟩:=hhed.le (CLe.grown hg);obtain ⟨k0,k1,k2,k3,k4,k5,k6⟩:=hcel.le (CLe.grown hg);clear hg hbx hcel hnd hR2 hv HR hin hRs hq' hPR hhed hgd;go_wp2_with fail;refine Calls.mono CC.out ?_;rintro e u5 ⟨he,hg⟩;subst he;have FY:Hid (w.grownBy u5 none∧u5.heap[q0]? = some (Obj.cells #[.int .i64 p.k,.int .i64 p.n,.slice a1 l1 c1,.slice a2 l2 c2,.slice a3 l3 c3,.slice a4 j c4,.slice (some ⟨b5,o5,none⟩) l5 c5] 36)):=⟨gtr HP.out.1 hg,(hg.block _ (lt_of_block HP.out.2.1) (by simp)).trans HP.out.2.1⟩
      clear CC hg y0 y1 y2 y3 y4 y5 y6 k0 k1 k2 k3 k4 k5 k6 m0' m1';obtain ⟨⟨y0,y1,y2,y3,y4,y5,y6⟩,-⟩:=blkE FY.out.2;obtain ⟨m0',m1'⟩:=HP.out.2.2.2.2.2.2.1.le (CLe.grown FY.out.1);simp only[]
      cases hq:l6aE ds pp kk aa with
      | false =>
       have EV:Hid (l6aE ds p kids alts=false):=by show _=_;rw[HP.out.2.2.2.1,hq];rfl
       clear hq;go_wp2;go_ret;exact ⟨by rw[EV.out];rfl,FY.out.1⟩
      | true =>
       have EV:Hid (l6aE ds p kids alts=(baG ds R' && rsL n false cnt P (hc::hds R'))):=by show _=_;rw[HP.out.2.2.2.1,hq,Bool.true_and]
       clear hq;by_cases hz:f0=0
       ·
        have E2:Hid (l6aE ds p kids alts=(baG ds R' && rsL n true cnt (P++[hc]) (hds R'))):=by show _=_;rw[EV.out];simp only[rsL,Bool.not_false,Bool.true_and,if_pos (by omega:hc.length=0)]
        subst hz;go_wp2;go_roundw
        case rel=>exact ⟨t+1,cnt,true,P++[hc],R',by omega,by omega,rfl,rfl,by go_num,by simp [hPl],FY.out.1,FY.out.2,⟨by omega,.inr ⟨b5,o5,rfl,HP.out.2.2.1⟩⟩,HP.out.2.2.2.2.1,E2.out,by rw[List.append_assoc];exact HP.out.2.2.2.2.2.1⟩
        case measure=>simp [intOf];omega
       have hz':((f0:Int) == 0)=false:=by simp;omega
       have FW:Hid (w.grownBy u5 none∧u5.heap[q0]? = some (Obj.cells #[.int .i64 p.k,.int .i64 p.n,.slice a1 l1 c1,.slice a2 l2 c2,.slice a3 l3 c3,.slice a4 j c4,.slice (some ⟨b5,o5,none⟩) l5 c5] 36)∧True∧True∧l6aE ds p kids alts=(baG ds R' && (!amV hc P && rsL n false (cnt+1) (P++[hc]) (hds R')))∧True):=⟨FY.out.1,FY.out.2,trivial,trivial,by rw[EV.out];simp only[rsL,Bool.not_false,Bool.true_and,if_neg (by omega:¬ hc.length=0)],trivial⟩;clear hz EV;go_wp2;clear y0 y1 y2 y3 y4 y5 y6 m0' m1'
       go_loopw [10] (fun i wr2=>∃ (q:Nat),q≤t∧i = .int .i64 q∧Hid (u5.grownBy wr2 none∧amV hc (P.take q)=false)) (fun i _=>t - (intOf i).toNat)
       case atStart=>exact ⟨0,Nat.zero_le _,rfl,grf _ _,by rw[List.take_zero];rfl⟩
       case round =>
        obtain ⟨q,hqt,rfl,HQ⟩:=hrel;by_cases hltq:q < t
        ·
         have hA:=HS.out.1.2.2.2.2
         obtain ⟨x,e9,f9,d9,t1,r1,s1,h2k,h3k,t4,r4,s4,t5,r5,s5,t6,r6,s6,t7,r7,s7,t8,r8,s8,hx9,hcx⟩:∃ (x:List Int) (e9:Option Addr) (f9 d9:Nat) (t1:Option Addr) (r1 s1:Nat) (h2k:Int) (h3k:Int) (t4:Option Addr) (r4 s4:Nat) (t5:Option Addr) (r5 s5:Nat) (t6:Option Addr) (r6 s6:Nat) (t7:Option Addr) (r7 s7:Nat) (t8:Option Addr) (r8 s8:Nat),(hds alts)[q]? = some x∧HdC w w b5 (o5+q * 9) x e9 f9 d9 t1 r1 s1 h2k h3k t4 r4 s4 t5 r5 s5 t6 r6 s6 t7 r7 s7 t8 r8 s8:=by
          rcases hA.cases with ⟨r1',r2'⟩|⟨b9,o9,ea9,hin9,-⟩
          ·
           omega
          ·
           injection ea9 with ea9;injection ea9 with ea8 ea7;subst ea8 ea7;exact hin9.head (i:=q) (by omega)
         have hxP:P[q]? = some x:=by
          rw[← HP.out.2.2.2.2.2.1,List.getElem?_append_left (by omega)] at hx9;exact hx9
         have gd0:=grown_drew HQ.out.1;have gd:=gtr FW.out.1 gd0;have hrx:=hcx.2;have hrc:=HP.out.2.2.2.2.2.2.2;have hcl:Hid (wr.drew.cell? ⟨q0,6,none⟩=some (.slice (some ⟨b5,o5,none⟩) l5 c5)∧wr.drew.cell? ⟨b5,o5+q * 9,none⟩=some (.slice e9 f9 d9)∧wr.drew.cell? ⟨b5,o5+t * 9,none⟩=some (.slice e0 f0 d0)):=⟨(blkE ((gd0.block _ (lt_of_block FW.out.2.1) (by simp)).trans FW.out.2.1)).1.2.2.2.2.2.2,gd.cell hcx.1.1 (by simp),gd.cell HP.out.2.2.2.2.2.2.1.1 (by simp)⟩;have hc1:(convert 23 9 (.slice e9 f9 d9)).run Tryz.prog wr.drew = .ok (.string (strOfNums x)) wr.drew:=conv_run (hrx.none gd).1;have hc2:(convert 23 9 (.slice e0 f0 d0)).run Tryz.prog wr.drew = .ok (.string (strOfNums hc)) wr.drew:=conv_run (hrc.none gd).1
         have hcmp:((strOfNums x).toList == (strOfNums hc).toList)=decide (x=hc):=by rw[toL_beq,str_eq hrx.2.1 hrc.2.1]
         have FK:Hid ((x=hc→amV hc P=true)∧(¬ x=hc→amV hc (P.take (q+1))=false)∧u5.grownBy wr.drew none):=by
          refine ⟨fun e=>?_,fun e=>?_,gd0⟩
          ·
           subst e;unfold amV;rw[List.any_eq_true];exact ⟨x,List.mem_of_getElem? hxP,by simp⟩
          ·
           have ht2:P.take (q+1)=P.take q++[x]:=by
            rw[List.take_add_one,hxP];rfl
           rw[ht2,namV_app,HQ.out.2];simp [amV,e]
         have hqt':(q:Int) < (t:Int):=by omega
         have hql:(q:Int) < (l5:Int):=by omega
         have htl:(t:Int) < (l5:Int):=by omega
         clear hA hx9 hcx hxP gd gd0 hrx hrc HQ;go_wp2_with fail;refine wp_region_held_drew (S:=(fun u=>u.cell? ⟨q0,6,none⟩=some (.slice (some ⟨b5,o5,none⟩) l5 c5)∧u.cell? ⟨b5,o5+q * 9,none⟩=some (.slice e9 f9 d9)∧u.cell? ⟨b5,o5+t * 9,none⟩=some (.slice e0 f0 d0))) (by kernel_rfl) hcl.out (fun hH=>?_);generalize wr.drew=x0 at *;simp only[List.size_toArray,lB,lC,Nat.reduceAdd,Array.replicate,List.replicate];refine tk 0 ?_;refine tk 1 ?_;refine tk 2 ?_;refine tk 3 ?_;refine tk 4 ?_;refine tk 5 ?_;refine tk 7 ?_;refine tk 8 ?_;refine tk 9 ?_;refine tk 10 ?_;refine tk 11 ?_;refine tk 12 ?_;refine wpAnyH_ready (rs:=[6,13]) (by kernel_rfl) (by simp) ?_;refine AllReadyH.cons rfl (fun K hK=>?_) ?_
         ·
          skip
          go_simp;refine hK.out _ _ hcl.out ?_;clear hK K hH;intro hH;simp only[Act.put,nA,nB,nC,nD,nE,nF];refine rd 13 rfl (fun K hK=>?_);go_simp;refine hK.out _ _ hcl.out ?_;clear hK K hH;intro hH;simp only[Act.put,nA,nB,nC,nD,nE,nF];refine tk 14 ?_;refine wpAnyH_done (by kernel_rfl) ?_ _;clear hH;by_cases hxz:x=hc
          ·
           have hd2:decide (x=hc)=true:=by simp [hxz]
           try rw[hd2]
           have EQ:Hid (x=hc):=hxz;clear hcmp hc1 hc2 hd2 hxz
           have E2:Hid (l6aE ds p kids alts=false):=by show _=_;rw[FW.out.2.2.2.2.1,show amV hc P=true from FK.out.1 (by rw[EQ.out]),Bool.not_true,Bool.false_and,Bool.and_false]
           go_wp2;go_ret;exact ⟨by rw[E2.out];rfl,gtr FW.out.1 FK.out.2.2⟩
          ·
           have hd2:decide (x=hc)=false:=by simp [hxz]
           try rw[hd2]
           have NQ:Hid (¬ x=hc):=hxz;clear hcmp hc1 hc2 hd2 hxz;have E2:Hid (amV hc (P.take (q+1))=false):=FK.out.2.1 NQ.out;go_wp2;go_roundw
           case rel=>exact ⟨q+1,by omega,by go_num,FK.out.2.2,E2.out⟩
           case measure=>simp [intOf];omega
         refine AllReadyH.cons rfl (fun K hK=>?_) AllReadyH.nil;go_simp;refine hK.out _ _ hcl.out ?_;clear hK K hH;intro hH;simp only[Act.put,nA,nB,nC,nD,nE,nF];refine rd 6 rfl (fun K hK=>?_);go_simp;refine hK.out _ _ hcl.out ?_;clear hK K hH;intro hH;simp only[Act.put,nA,nB,nC,nD,nE,nF];refine tk 14 ?_;refine wpAnyH_done (by kernel_rfl) ?_ _;clear hH;by_cases hxz:x=hc
         ·
          have hd2:decide (x=hc)=true:=by simp [hxz]
          try rw[hd2]
          have EQ:Hid (x=hc):=hxz;clear hcmp hc1 hc2 hd2 hxz
          have E2:Hid (l6aE ds p kids alts=false):=by show _=_;rw[FW.out.2.2.2.2.1,show amV hc P=true from FK.out.1 (by rw[EQ.out]),Bool.not_true,Bool.false_and,Bool.and_false]
          go_wp2;go_ret;exact ⟨by rw[E2.out];rfl,gtr FW.out.1 FK.out.2.2⟩
         ·
          have hd2:decide (x=hc)=false:=by simp [hxz]
          try rw[hd2]
          have NQ:Hid (¬ x=hc):=hxz;clear hcmp hc1 hc2 hd2 hxz;have E2:Hid (amV hc (P.take (q+1))=false):=FK.out.2.1 NQ.out;go_wp2;go_roundw
          case rel=>exact ⟨q+1,by omega,by go_num,FK.out.2.2,E2.out⟩
          case measure=>simp [intOf];omega
        ·
         obtain rfl:q=t:=by omega
         have hPt:P.take q=P:=List.take_of_length_le (by omega);have E2:Hid (l6aE ds p kids alts=(baG ds R' && rsL n false (cnt+1) (P++[hc]) (hds R'))∧w.grownBy wr none∧wr.heap[q0]? = some (Obj.cells #[.int .i64 p.k,.int .i64 p.n,.slice a1 l1 c1,.slice a2 l2 c2,.slice a3 l3 c3,.slice a4 j c4,.slice (some ⟨b5,o5,none⟩) l5 c5] 36)):=⟨by rw[FW.out.2.2.2.2.1,← hPt,HQ.out.2,hPt];rfl,gtr FW.out.1 HQ.out.1,(HQ.out.1.block _ (lt_of_block FW.out.2.1) (by simp)).trans FW.out.2.1⟩;clear HQ hPt;go_wp2;go_roundw
         case rel=>exact ⟨q+1,cnt+1,false,P++[hc],R',by omega,by omega,rfl,by go_num,by go_num,by simp [hPl],E2.out.2.1,E2.out.2.2,⟨by omega,.inr ⟨b5,o5,rfl,HP.out.2.2.1⟩⟩,HP.out.2.2.2.2.1,E2.out.1,by rw[List.append_assoc];exact HP.out.2.2.2.2.2.1⟩
         case measure=>simp [intOf];omega
    ·
     obtain rfl:t=l5:=by omega
     obtain ⟨hg,-,⟨hRl,-⟩,-,hv,-⟩:=HR.out;obtain rfl:R = .nil:=GE.nil_of_len (by omega);obtain ⟨z,hzd⟩:=HDS.out hd0';obtain ⟨jh,bh,oh,a7,l7,c7,ej,rfl,hjl,k2,hnl,hl7⟩:=data_cells (HS.out.2.1.none hg) (by rw[hzd];exact hd0') hzd;rw[HNN.out] at hnl;subst hnl;have EV:Hid (l6aE ds p kids alts=((rs && decide (cnt < n)) || (!rs && decide (cnt=n)))∧w.grownBy wr none):=⟨by rw[hv];rfl,hg⟩
     have hjl':(jh:Int) < (ld:Int):=by omega
     clear HR hg hv hRl hzd HDS HNN;subst ej
     cases rs with
     | true =>
      by_cases hcn:cnt < n
      ·
       have hcn':(cnt:Int) < (n:Int):=by omega
       have E2:Hid (l6aE ds p kids alts=true):=by show _=_;rw[EV.out.1];simp [hcn]
       go_wp2;go_ret;exact ⟨by rw[E2.out];rfl,EV.out.2⟩
      ·
       have hcn':¬ (cnt:Int) < (n:Int):=by omega
       have E2:Hid (l6aE ds p kids alts=false):=by show _=_;rw[EV.out.1];simp [hcn]
       go_wp2;go_ret;exact ⟨by rw[E2.out];rfl,EV.out.2⟩
     | false =>
      by_cases hcn:cnt=n
      ·
       have hcb:((cnt:Int) == (n:Int))=true:=by simp [hcn]
       have E2:Hid (l6aE ds p kids alts=true):=by show _=_;rw[EV.out.1];simp [hcn]
       clear hcn;go_wp2;go_ret;exact ⟨by rw[E2.out];rfl,EV.out.2⟩
      ·
       have hcb:((cnt:Int) == (n:Int))=false:=by simp;omega
       have E2:Hid (l6aE ds p kids alts=false):=by show _=_;rw[EV.out.1];simp [hcn]
       clear hcn;go_wp2;go_ret;exact ⟨by rw[E2.out];rfl,EV.out.2⟩
theorem l6bT (ds:List Da) (ad:Option Addr) (ld cd:Nat):∀ M,L6B ds ad ld cd M
 | 0=>by intro p kids alts a1 l1 c1 a2 l2 c2 a3 l3 c3 a4 l4 c4 a5 l5 c5 w hM;exact absurd hM (Nat.not_lt_zero _)
 | M+1=>l6bT_of ds ad ld cd M (l6bT ds ad ld cd M)
end Go.Proofs.YtblbnillilbacaaGreatDoor.By
