/-
  No statement is proved here.
-/
import Derived.Test.YtblbnillilbacaaGreatDoorEEqAlsoa
import Derived.Deep.DeepCutAuto
import Derived.Deep.CutBlock
namespace Go.Proofs.YtblbnillilbacaaGreatDoor.By
set_option maxRecDepth 100000
set_option maxHeartbeats 16000000
open Go.RowKit
set_option linter.unusedVariables false
def fitsB (k n:Int) (l:Nat):Bool :=
 if k=0∨k=1∨k=2 then decide (l=0) && decide (n=0)
 else if k=3∨k=4 then decide (l=2) && decide (n=0)
 else if k=5 then decide (l=1) && decide (n=0)
 else if k=6 then decide (l≤3) && (decide (0≤n) && decide (n < 20))
 else if k=7 then decide (l=0) && (decide (0≤n) && decide (n < 100000))
 else false
def okF:F→Nat→Bool
 | .nil,_=>true
 | .cons k n d r,p=>decide (p≠0) && fitsB k n d.len && okF d (p - 1) && okF r p
def tyV (bad:Int) (k n:Int) (d:F) (p room:Nat):Int:=if p≠0∧fitsB k n d.len=true∧okF d (p - 1)=true∧1+d.size≤room then ((1+d.size:Nat):Int) else bad
def accV (bad:Int) (R:F) (p s room:Nat):Int:=if okF R p=true∧s+R.size≤room then ((s+R.size:Nat):Int) else bad
theorem accV_nil {bad:Int} {p s room:Nat} (h:s≤room):accV bad .nil p s room=(s:Int):=by
 unfold accV;rw[if_pos ⟨rfl,by simpa [F.size] using h⟩];simp [F.size]
theorem accV_cons {bad k n:Int} {d r:F} {p s room:Nat} (hp:p≠0) (h1:fitsB k n d.len=true) (h2:okF d (p - 1)=true):accV bad (.cons k n d r) p s room=accV bad r p (s+(1+d.size)) room:=by
 unfold accV
 have e:okF (.cons k n d r) p=okF r p:=by simp [okF,hp,h1,h2]
 have e2:s+(F.cons k n d r).size=s+(1+d.size)+r.size:=by simp only[F.size];omega
 rw[e,e2]
theorem accV_bad {bad k n:Int} {d r:F} {p s room:Nat} (h:¬ (p≠0∧fitsB k n d.len=true∧okF d (p - 1)=true∧s+(1+d.size)≤room)):accV bad (.cons k n d r) p s room=bad:=by
 unfold accV;rw[if_neg];rintro ⟨h1,h2⟩;apply h;simp only[okF,Bool.and_eq_true,decide_eq_true_eq] at h1;simp only[F.size] at h2;exact ⟨h1.1.1.1,h1.1.1.2,h1.1.2,by omega⟩
theorem tyV_acc {bad k n:Int} {d:F} {p room:Nat} (hp:p≠0) (h1:fitsB k n d.len=true):tyV bad k n d p room=accV bad d (p - 1) 1 room:=by
 unfold tyV accV;by_cases h:okF d (p - 1)=true∧1+d.size≤room
 ·
  rw[if_pos ⟨hp,h1,h⟩,if_pos h]
 ·
  rw[if_neg (fun x=>h x.2.2),if_neg h]
theorem tyV_bad {bad k n:Int} {d:F} {p room:Nat} (h:¬ (p≠0∧fitsB k n d.len=true)):tyV bad k n d p room=bad:=by
 unfold tyV;rw[if_neg (fun x=>h ⟨x.1,x.2.1⟩)]
theorem n0 (n:Int):decide (n=0)=(decide (0≤n) && decide (n≤0)):=by
 by_cases h:n=0
 ·
  subst h;rfl
 ·
  by_cases h2:0≤n
  ·
   have h3:¬ n≤0:=by omega
   simp [h,h3]
  ·
   simp [h,h2]
theorem nlt (n:Int) (m:Int):decide (n < m+1)=decide (n≤m):=by
 by_cases h:n≤m
 ·
  simp [h,show n < m+1 by omega]
 ·
  simp [h,show ¬ n < m+1 by omega]
theorem fits012 {k n:Int} {l:Nat} (h:k=0∨k=1∨k=2):fitsB k n l=(decide (l=0) && (decide (0≤n) && decide (n≤0))):=by
 unfold fitsB;rw[if_pos h,n0]
theorem fits34 {k n:Int} {l:Nat} (h:k=3∨k=4):fitsB k n l=(decide (l=2) && (decide (0≤n) && decide (n≤0))):=by
 unfold fitsB;rw[if_neg (by omega),if_pos h,n0]
theorem fits5 {n:Int} {l:Nat}:fitsB 5 n l=(decide (l=1) && (decide (0≤n) && decide (n≤0))):=by
 unfold fitsB;rw[if_neg (by omega),if_neg (by omega),if_pos rfl,n0]
theorem fits6 {n:Int} {l:Nat} (h:l≤3):fitsB 6 n l=(decide (l=l) && (decide (0≤n) && decide (n≤19))):=by
 unfold fitsB;rw[if_neg (by omega),if_neg (by omega),if_neg (by omega),if_pos rfl,← nlt n 19];simp [h]
theorem fits6x {n:Int} {l:Nat} (h:¬ l≤3):fitsB 6 n l=false:=by
 unfold fitsB;rw[if_neg (by omega),if_neg (by omega),if_neg (by omega),if_pos rfl];simp [h]
theorem fits7 {n:Int} {l:Nat}:fitsB 7 n l=(decide (l=0) && (decide (0≤n) && decide (n≤99999))):=by
 unfold fitsB;rw[if_neg (by omega),if_neg (by omega),if_neg (by omega),if_neg (by omega),if_pos rfl,← nlt n 99999];rfl
theorem fitsx {k n:Int} {l:Nat} (h0:k≠0) (h1:k≠1) (h2:k≠2) (h3:k≠3) (h4:k≠4) (h5:k≠5) (h6:k≠6) (h7:k≠7):fitsB k n l=false:=by
 unfold fitsB;rw[if_neg (by omega),if_neg (by omega),if_neg h5,if_neg h6,if_neg h7]
theorem l3okT (m:Nat):∀ (d:F) (k n:Int) (a:Option Addr) (l c:Nat) (deep:Int) (w:World),d.size < m→SlF w a l d→1≤deep→deep≤11 →
  Calls Tryz.prog 88 #[.agg #[.int .i64 k,.int .i64 n,.slice a l c],.int .i64 deep] w fun e u=>e = .returned (.int .i64 (tyV (-1) k n d (11 - deep).toNat 60))∧w.grownBy u none:=by
 induction m with
 | zero=>intro d k n a l c deep w hm;exact absurd hm (Nat.not_lt_zero _)
 | succ m ih =>
  intro d k n a l c deep w hm h h0 h1;have hfl:=h.1;have hl:=h.2.1;by_cases hdeep:deep=11
  ·
   subst hdeep;have E:Hid (tyV (-1) k n d (11 - 11:Int).toNat 60 = -1):=tyV_bad (by simp);go_enter Tryz.func88,Tryz.ntmps88;go_wp2;go_ret;exact ⟨by rw[E.out];rfl,gal _ _ _⟩
  have hd10:deep≤10:=by omega
  have hp0:(11 - deep).toNat≠0:=by omega
  have IH:Hid _:=ih;have HS:Hid (SlF w a l d):=h;clear ih h hdeep h1;go_enter Tryz.func88,Tryz.ntmps88;go_upto_block 0 with fail
  go_cut [5,6] (fun s5 s6 wx=>wx=w.alloc (.cells #[.int .i64 k,.int .i64 n,.slice a l c] 79)∧∃ (want:Nat) (most:Int),s5 = .int .i64 want∧s6 = .int .i64 most∧Hid (fitsB k n l=(decide (l=want) && (decide (0≤n) && decide (n≤most)))))
  case first =>
   by_cases k0:k=0
   ·
    subst k0;go_wp2;go_meet;case rel=>exact ⟨rfl,0,0,rfl,rfl,fits012 (by simp)⟩
   by_cases k1:k=1
   ·
    subst k1;go_wp2;go_meet;case rel=>exact ⟨rfl,0,0,rfl,rfl,fits012 (by simp)⟩
   by_cases k2:k=2
   ·
    subst k2;go_wp2;go_meet;case rel=>exact ⟨rfl,0,0,rfl,rfl,fits012 (by simp)⟩
   by_cases k3:k=3
   ·
    subst k3;go_wp2;go_meet;case rel=>exact ⟨rfl,2,0,rfl,rfl,fits34 (by simp)⟩
   by_cases k4:k=4
   ·
    subst k4;go_wp2;go_meet;case rel=>exact ⟨rfl,2,0,rfl,rfl,fits34 (by simp)⟩
   by_cases k5:k=5
   ·
    subst k5;go_wp2;go_meet;case rel=>exact ⟨rfl,1,0,rfl,rfl,fits5⟩
   by_cases k6:k=6
   ·
    subst k6;by_cases l3:l≤3
    ·
     have l3':(l:Int)≤3:=by omega
     go_wp2;go_meet;case rel=>exact ⟨rfl,l,19,rfl,rfl,fits6 l3⟩
    ·
     have l3':(3:Int) < l:=by omega
     have E:Hid (tyV (-1) 6 n d (11 - deep).toNat 60 = -1):=tyV_bad (by rw[hfl,fits6x l3];simp);go_wp2;go_ret;exact ⟨by rw[E.out];rfl,gal _ _ _⟩
   by_cases k7:k=7
   ·
    subst k7;go_wp2;go_meet;case rel=>exact ⟨rfl,0,99999,rfl,rfl,fits7⟩
   have E:Hid (tyV (-1) k n d (11 - deep).toNat 60 = -1):=tyV_bad (by rw[fitsx k0 k1 k2 k3 k4 k5 k6 k7];simp);go_wp2;go_ret;exact ⟨by rw[E.out];rfl,gal _ _ _⟩
  case rest =>
   obtain ⟨rfl,want,most,rfl,rfl,hF⟩:=hcut;have hF':=hF.out;by_cases f1:l=want
   rotate_left
   ·
    have E:Hid (tyV (-1) k n d (11 - deep).toNat 60 = -1):=tyV_bad (by rw[hfl,hF',decide_eq_false f1];simp)
    have f1':¬ (l:Int)=want:=by omega
    clear hF' f1;go_wp2;go_ret;exact ⟨by rw[E.out];rfl,gal _ _ _⟩
   subst f1;by_cases f2:0≤n
   rotate_left
   ·
    have E:Hid (tyV (-1) k n d (11 - deep).toNat 60 = -1):=tyV_bad (by rw[hfl,hF',decide_eq_false f2];simp)
    have f2':n < 0:=by omega
    clear hF' f2;go_wp2;go_ret;exact ⟨by rw[E.out];rfl,gal _ _ _⟩
   by_cases f3:n≤most
   rotate_left
   ·
    have E:Hid (tyV (-1) k n d (11 - deep).toNat 60 = -1):=tyV_bad (by rw[hfl,hF',decide_eq_false f3];simp)
    have f3':most < n:=by omega
    clear hF' f3;go_wp2;go_ret;exact ⟨by rw[E.out];rfl,gal _ _ _⟩
   have hfit:fitsB k n d.len=true:=by rw[hfl,hF',decide_eq_true f2,decide_eq_true f3];simp
   have E:Hid (tyV (-1) k n d (11 - deep).toNat 60=accV (-1) d ((11 - deep).toNat - 1) 1 60):=tyV_acc hp0 hfit;clear hF' hF hfit;have g0:w.grownBy (w.alloc (.cells #[.int .i64 k,.int .i64 n,.slice a l c] 79)) none:=gal _ _ _;have b0:=(three (heap_alloc_new w (.cells #[.int .i64 k,.int .i64 n,.slice a l c] 79))).1.2.2;rcases HS.out.cases with ⟨rfl,rfl⟩|⟨b,o,rfl,hin,-,hpos⟩
   ·
    have E2:Hid (tyV (-1) k n .nil (11 - deep).toNat 60=1):=E.out.trans (accV_nil (by omega));clear b0;go_wp2;refine wp_loop_rounds 1 ?_;rw[rounds_succ];go_wp2;go_ret;exact ⟨by rw[E2.out];rfl,g0⟩
   have IN:Hid (InF _ d b o):=hin.none g0;have G0:Hid (w.grownBy _ none):=g0;have B0:Hid (_=some _):=b0;clear hin HS g0 b0;go_wp2;generalize w.alloc (.cells #[.int .i64 k,.int .i64 n,.slice (some ⟨b,o,none⟩) l c] 79)=W0 at *
   go_loopw [7,8] (fun v i wr=>∃ (j s:Nat) (R:F),j≤l∧i = .int .i64 j∧v = .int .i64 s∧1≤s∧s≤60∧W0.grownBy wr none∧InF wr R b (o+j * 3)∧R.len+j=l∧R.size≤d.size∧Hid (accV (-1) d ((11 - deep).toNat - 1) 1 60=accV (-1) R ((11 - deep).toNat - 1) s 60)) (fun _ i _=>l - (intOf i).toNat)
   case atStart=>exact ⟨0,1,d,Nat.zero_le _,rfl,rfl,by omega,by omega,grf _ _,by simpa using IN.out,by omega,Nat.le_refl _,rfl⟩
   case round =>
    obtain ⟨j,s,R,hj,rfl,rfl,hs1,hs2,hg,hR,hRl,hRs,hv⟩:=hrel;have x2:=hg.cell B0.out (by simp);by_cases hlt:j < l
    ·
     obtain ⟨q,hq⟩:∃ q,R.len=q+1:=⟨R.len - 1,by omega⟩;obtain ⟨kk,nn,d',R',rfl,hR'⟩:=F.cons_of_len hq;obtain ⟨a',l',c',c0,c1,c2,hd,hR2⟩:=hR.out
     have e3:o+j * 3+3=o+(j+1) * 3:=by omega
     rw[e3] at hR2
     have hds:d'.size < m:=by simp only[F.size] at hRs hm;omega
     have hRs':R'.size≤d.size:=by simp only[F.size] at hRs;omega
     have CC:Hid _:=IH.out d' kk nn a' l' c' (deep+1) wr hds hd (by omega) (by omega);have FX:Hid (InF wr R' b (o+(j+1) * 3)∧W0.grownBy wr none):=⟨hR2,hg⟩
     have hP:(11 - (deep+1)).toNat=(11 - deep).toNat - 1:=by omega
     rw[hP] at CC;generalize (11 - deep).toNat - 1=P1 at *;clear hd hR hR2 hg IN IH hRs hP;go_wp2_with fail;refine Calls.mono CC.out ?_;rintro e u ⟨rfl,hgu⟩;obtain ⟨hR2,hg⟩:=FX.out;have FY:Hid (InF u R' b (o+(j+1) * 3)∧W0.grownBy u none):=⟨hR2.none hgu,gtr hg hgu⟩;clear hR2 hg hgu CC c0 c1 c2 FX x2;simp only[];by_cases hh:P1≠0∧fitsB kk nn d'.len=true∧okF d' (P1 - 1)=true∧1+d'.size≤60
     ·
      have e1:tyV (-1) kk nn d' P1 60=((1+d'.size:Nat):Int):=if_pos hh;rw[e1];obtain ⟨q0,q1,q2,q3⟩:=hh;by_cases hsum:s+(1+d'.size)≤60
      ·
       have hv2:Hid (accV (-1) d P1 1 60=accV (-1) R' P1 (s+(1+d'.size)) 60):=hv.out.trans (accV_cons q0 q1 q2)
       have hs3:¬ (60 < (s:Int)+((1+d'.size:Nat):Int)):=by omega
       generalize hz:1+d'.size=z at *;clear e1 hv q0 q1 q2;go_wp2;go_roundw
       case rel=>exact ⟨j+1,s+z,R',by omega,by go_num,by go_num,by omega,hsum,FY.out.2,FY.out.1,by omega,hRs',hv2⟩
       case measure=>simp [intOf];omega
      ·
       have hv2:Hid (accV (-1) d P1 1 60 = -1):=hv.out.trans (accV_bad (fun x=>hsum x.2.2.2))
       have hs3:(60 < (s:Int)+((1+d'.size:Nat):Int)):=by omega
       generalize hz:1+d'.size=z at *;clear e1 hv q0 q1 q2;go_wp2;go_ret;exact ⟨by rw[E.out,hv2.out];rfl,gtr G0.out FY.out.2⟩
     ·
      have e1:tyV (-1) kk nn d' P1 60 = -1:=if_neg hh;rw[e1];have hv2:Hid (accV (-1) d P1 1 60 = -1):=hv.out.trans (accV_bad (fun x=>hh ⟨x.1,x.2.1,x.2.2.1,by omega⟩));clear e1 hv hh;go_wp2;go_ret;exact ⟨by rw[E.out,hv2.out];rfl,gtr G0.out FY.out.2⟩
    ·
     obtain rfl:j=l:=by omega
     obtain rfl:R = .nil:=F.nil_of_len (by omega);have E2:Hid (tyV (-1) k n d (11 - deep).toNat 60=(s:Int)):=(E.out.trans hv.out).trans (accV_nil hs2);clear hv;go_wp2;go_ret;exact ⟨by rw[E2.out];rfl,gtr G0.out hg⟩
def okT (k n:Int) (d:F):Bool:=fitsB k n d.len && okF d 9 && decide (1+d.size≤60)
theorem tyV_ok {bad k n:Int} {d:F} (h:okT k n d=true):tyV bad k n d 10 60=((1+d.size:Nat):Int):=by
 simp only[okT,Bool.and_eq_true,decide_eq_true_eq] at h;exact if_pos ⟨by omega,h.1.1,h.1.2,h.2⟩
theorem tyV_no {bad k n:Int} {d:F} (h:okT k n d=false):tyV bad k n d 10 60=bad:=by
 refine if_neg (fun x=>?_)
 have:okT k n d=true:=by simp only[okT,Bool.and_eq_true,decide_eq_true_eq];exact ⟨⟨x.2.1,x.2.2.1⟩,x.2.2.2⟩
 rw[this] at h;cases h
theorem specTyOkT (d:F) (k n:Int) (a:Option Addr) (l c:Nat) (w:World) (h:SlF w a l d) :
  Calls Tryz.prog 48 #[.agg #[.int .i64 k,.int .i64 n,.slice a l c]] w fun e u=>e = .returned (.bool (okT k n d))∧w.grownBy u none:=by
 have g0:w.grownBy (w.alloc (.cells #[.int .i64 k,.int .i64 n,.slice a l c] 79)) none:=gal _ _ _;have CC:Hid _:=l3okT (d.size+1) d k n a l c 1 _ (Nat.lt_succ_self _) (h.none g0) (by omega) (by omega);have G0:Hid _:=g0;clear h g0;go_enter Tryz.func48,Tryz.ntmps48;go_wp2_with fail;refine Calls.mono CC.out ?_;rintro e u ⟨rfl,hg⟩;have G:Hid (w.grownBy u none):=gtr G0.out hg;clear hg G0 CC;have e10:(11 - 1:Int).toNat=10:=rfl;simp only[e10]
 cases hb:okT k n d with
 | true =>
  rw[tyV_ok hb]
  have hpos:(0:Int) < ((1+d.size:Nat):Int):=by omega
  generalize ((1+d.size:Nat):Int)=z at *;go_wp2;go_ret;exact ⟨by simp [hb],G.out⟩
 | false =>
  rw[tyV_no hb];go_wp2;go_ret;exact ⟨by rw[hb];rfl,G.out⟩
set_option linter.unusedSimpArgs false
def fixV (k:Int):Value :=
 if k=1 then .agg #[.string ⟨#[105,110,116]⟩,.int .i64 0,.bool false]
 else if k=2 then .agg #[.string ⟨#[116,101,120,116]⟩,.int .i64 0,.bool true]
 else if k=3 then .agg #[.string ⟨#[112,97,105,114]⟩,.int .i64 2,.bool true]
 else if k=4 then .agg #[.string ⟨#[102,117,110]⟩,.int .i64 2,.bool true]
 else if k=5 then .agg #[.string ⟨#[114,101,102]⟩,.int .i64 1,.bool true]
 else .agg #[.string ⟨#[117,110,105,116]⟩,.int .i64 0,.bool false]
def shpV (k:Int):Value :=
 if k=6 then .iface 196 (.agg #[])
 else if k=7 then .iface 197 (.agg #[])
 else if k < 0∨7 < k then .iface 198 (.agg #[])
 else .iface 187 (fixV k)
theorem fixT (k:Int) (h0:0≤k) (h1:k≤5) (w:World) :
  Calls Tryz.prog 156 #[.int .i64 k] w fun e u=>e = .returned (fixV k)∧w.grownBy u none:=by
 have hk:k=0∨k=1∨k=2∨k=3∨k=4∨k=5:=by omega
 clear h0 h1;rcases hk with rfl|rfl|rfl|rfl|rfl|rfl
 all_goals (go_enter Tryz.func156,Tryz.ntmps156;go_wp2;go_returns;exact ⟨rfl,gal _ _ _⟩)
theorem shpT (k:Int) (w:World) :
  Calls Tryz.prog 150 #[.int .i64 k] w fun e u=>e = .returned (shpV k)∧w.grownBy u none:=by
 by_cases h6:k=6
 ·
  subst h6;go_enter Tryz.func150,Tryz.ntmps150;go_wp2;go_ret;exact ⟨rfl,grf _ _⟩
 by_cases h7:k=7
 ·
  subst h7;go_enter Tryz.func150,Tryz.ntmps150;go_wp2;go_ret;exact ⟨rfl,grf _ _⟩
 by_cases hx:k < 0
 ·
  have E:Hid (shpV k = .iface 198 (.agg #[])):=by show shpV k=_;unfold shpV;rw[if_neg h6,if_neg h7,if_pos (.inl hx)]
  go_enter Tryz.func150,Tryz.ntmps150;go_wp2;go_ret;exact ⟨by rw[E.out];rfl,grf _ _⟩
 by_cases hy:7 < k
 ·
  have E:Hid (shpV k = .iface 198 (.agg #[])):=by show shpV k=_;unfold shpV;rw[if_neg h6,if_neg h7,if_pos (.inr hy)]
  go_enter Tryz.func150,Tryz.ntmps150;go_wp2;go_ret;exact ⟨by rw[E.out];rfl,grf _ _⟩
 have E:Hid (shpV k = .iface 187 (fixV k)):=by show shpV k=_;unfold shpV;rw[if_neg h6,if_neg h7,if_neg (by omega)]
 have CC:Hid _:=fixT k (by omega) (by omega) w;go_enter Tryz.func150,Tryz.ntmps150;go_wp2_with fail;refine Calls.mono CC.out ?_;rintro e u ⟨rfl,hg⟩;have G:Hid (w.grownBy u none):=hg;clear hg CC;simp only[];go_wp2;go_ret;exact ⟨by rw[E.out];rfl,G.out⟩
theorem methVar (w : World) : Sem.run Tryz.prog (method 339 197 (.agg #[]) "loop.example/g00293/impl.fits") w = .ok (208, .agg #[]) w := by kernel_rfl
theorem methData (w : World) : Sem.run Tryz.prog (method 339 196 (.agg #[]) "loop.example/g00293/impl.fits") w = .ok (206, .agg #[]) w := by kernel_rfl
theorem methNo (w : World) : Sem.run Tryz.prog (method 339 198 (.agg #[]) "loop.example/g00293/impl.fits") w = .ok (210, .agg #[]) w := by kernel_rfl
theorem methFix (v : Value) (w : World) : Sem.run Tryz.prog (method 339 187 v "loop.example/g00293/impl.fits") w = .ok (204, v) w := by kernel_rfl
theorem varFits (n:Int) (l:Nat) (w:World) :
  Calls Tryz.prog 208 #[.agg #[],.int .i64 n,.int .i64 l] w fun e u=>e = .returned (.bool (fitsB 7 n l))∧w.grownBy u none:=by
 have E:Hid (fitsB 7 n l=_):=fits7;by_cases h1:0≤n
 ·
  by_cases h2:n≤99999
  ·
   by_cases h3:l=0
   ·
    subst h3
    have h2':n < 100000:=by omega
    go_enter Tryz.func208,Tryz.ntmps208;go_wp2;go_ret;exact ⟨by rw[E.out];simp [h1,h2],gal _ _ _⟩
   ·
    have h3':¬ (l:Int)=0:=by omega
    have h2':n < 100000:=by omega
    go_enter Tryz.func208,Tryz.ntmps208;go_wp2;go_ret;exact ⟨by rw[E.out];simp [h3],gal _ _ _⟩
  ·
   have h2':¬ n < 100000:=by omega
   go_enter Tryz.func208,Tryz.ntmps208;go_wp2;go_ret;exact ⟨by rw[E.out];simp [h2],gal _ _ _⟩
 ·
  go_enter Tryz.func208,Tryz.ntmps208;go_wp2;go_ret;exact ⟨by rw[E.out];simp;omega,gal _ _ _⟩
theorem dataFits (n:Int) (l:Nat) (w:World) :
  Calls Tryz.prog 206 #[.agg #[],.int .i64 n,.int .i64 l] w fun e u=>e = .returned (.bool (fitsB 6 n l))∧w.grownBy u none:=by
 have hl0:(0:Int)≤l:=by omega
 by_cases h1:0≤n
 ·
  by_cases h2:n≤19
  ·
   have h2':n < 20:=by omega
   by_cases h3:l≤3
   ·
    have h3':(l:Int)≤3:=by omega
    have E:Hid (fitsB 6 n l=true):=by show _=_;rw[fits6 h3];simp [h1,h2]
    go_enter Tryz.func206,Tryz.ntmps206;go_wp2;go_ret;exact ⟨by rw[E.out];simp [h3'],gal _ _ _⟩
   ·
    have h3':¬ (l:Int)≤3:=by omega
    have E:Hid (fitsB 6 n l=false):=fits6x h3;go_enter Tryz.func206,Tryz.ntmps206;go_wp2;go_ret;exact ⟨by rw[E.out];first|rfl | (simp;done) | (simp;omega),gal _ _ _⟩
  ·
   have h2':¬ n < 20:=by omega
   have E:Hid (fitsB 6 n l=false):=by
    show _=_
    by_cases h3:l≤3
    ·
     rw[fits6 h3];simp [h2]
    ·
     exact fits6x h3
   go_enter Tryz.func206,Tryz.ntmps206;go_wp2;go_ret;exact ⟨by rw[E.out];rfl,gal _ _ _⟩
 ·
  have E:Hid (fitsB 6 n l=false):=by
   show _=_
   by_cases h3:l≤3
   ·
    rw[fits6 h3];simp;omega
   ·
    exact fits6x h3
  go_enter Tryz.func206,Tryz.ntmps206;go_wp2;go_ret;exact ⟨by rw[E.out];rfl,gal _ _ _⟩
theorem noFits (n:Int) (l:Nat) (w:World) :
  Calls Tryz.prog 210 #[.agg #[],.int .i64 n,.int .i64 l] w fun e u=>e = .returned (.bool (fitsB 8 n l))∧w.grownBy u none:=by
 have E:Hid (fitsB 8 n l=false):=fitsx (by omega) (by omega) (by omega) (by omega) (by omega) (by omega) (by omega) (by omega);go_enter Tryz.func210,Tryz.ntmps210;go_wp2;go_ret;exact ⟨by rw[E.out];rfl,gal _ _ _⟩
theorem fixFits (s:ByteArray) (b:Bool) (z n:Int) (l:Nat) (w:World) :
  Calls Tryz.prog 204 #[.agg #[.string s,.int .i64 z,.bool b],.int .i64 n,.int .i64 l] w fun e u=>e = .returned (.bool (decide (n=0) && decide ((l:Int)=z)))∧w.grownBy u none:=by
 by_cases h1:n=0
 ·
  subst h1;go_enter Tryz.func204,Tryz.ntmps204;go_wp2;go_ret;exact ⟨by simp;rfl,gal _ _ _⟩
 ·
  go_enter Tryz.func204,Tryz.ntmps204;go_wp2;go_ret;exact ⟨by simp [h1],gal _ _ _⟩
end Go.Proofs.YtblbnillilbacaaGreatDoor.By
