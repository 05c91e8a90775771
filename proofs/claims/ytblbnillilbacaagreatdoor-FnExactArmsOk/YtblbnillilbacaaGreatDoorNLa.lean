/-
  No statement is proved here.
-/
import Derived.Test.YtblbnillilbacaaGreatDoorNKa
import Derived.Test.YtblbnillilbacaaGreatDoorNF1a
namespace Go.Proofs.YtblbnillilbacaaGreatDoor.By
open Go.RowKit
set_option linter.unusedVariables false
set_option linter.unusedSimpArgs false
set_option maxRecDepth 20000
theorem badA_len {g:GE} (h:g.len=0):badA g=false:=by
 rw[GE.nil_of_len h];rfl
theorem pos_not (n:Nat):decide (0 < n) = !decide (n=0):=by cases n <;> simp
theorem c4ff (name arg:List Int):c4B false false name arg=(!decide (name.length=0) || !decide (arg.length=0)):=by simp only[c4B,pos_not,Bool.not_true,Bool.not_false,Bool.true_and,Bool.false_and,Bool.false_or,Bool.or_false]
theorem gt3_not (n:Nat):decide (3 < n) = !decide (n≤3):=by
 by_cases h:n≤3
 ·
  simp [h,show ¬ 3 < n by omega]
 ·
  simp [h,show 3 < n by omega]
theorem int_dec (c:Nat) (n:Nat):decide ((c:Int)=(n:Int))=decide (n=c):=by
 by_cases h:n=c
 ·
  simp [h]
 ·
  simp [h];omega
theorem fit0 (p:PE) (kids alts:GE):fitV ⟨#[]⟩ p kids alts=(true && decide (p.name.length=0) && decide (p.arg.length=0) && decide (p.lit.length=0) && decide (kids.len=0) && decide (alts.len=0)):=by
 have h105:hasB ⟨#[]⟩ 105=false:=by kernel_rfl
 have h110:hasB ⟨#[]⟩ 110=false:=by kernel_rfl
 have h103:hasB ⟨#[]⟩ 103=false:=by kernel_rfl
 have h97:hasB ⟨#[]⟩ 97=false:=by kernel_rfl
 have h116:hasB ⟨#[]⟩ 116=false:=by kernel_rfl
 have h102:hasB ⟨#[]⟩ 102=false:=by kernel_rfl
 have h109:hasB ⟨#[]⟩ 109=false:=by kernel_rfl
 have hk:Lib.countByte (⟨#[]⟩:ByteArray).data.toList 107=0:=by kernel_rfl
 unfold fitV nfV afV lfV kfV mfV;simp only[h105,h110,h103,h97,h116,h102,h109,hk,if_true,if_false,Bool.false_eq_true,Bool.not_true,Bool.not_false,Bool.true_or,Bool.false_or,reduceIte]
theorem fit1 (p:PE) (kids alts:GE):fitV ⟨#[103,102]⟩ p kids alts=(true && wordV 65 90 p.name && decide (p.arg.length=0) && decide (p.lit.length=0) && decide (kids.len≤3) && decide (alts.len=0)):=by
 have h105:hasB ⟨#[103,102]⟩ 105=false:=by kernel_rfl
 have h110:hasB ⟨#[103,102]⟩ 110=false:=by kernel_rfl
 have h103:hasB ⟨#[103,102]⟩ 103=true:=by kernel_rfl
 have h97:hasB ⟨#[103,102]⟩ 97=false:=by kernel_rfl
 have h116:hasB ⟨#[103,102]⟩ 116=false:=by kernel_rfl
 have h102:hasB ⟨#[103,102]⟩ 102=true:=by kernel_rfl
 have h109:hasB ⟨#[103,102]⟩ 109=false:=by kernel_rfl
 have hk:Lib.countByte (⟨#[103,102]⟩:ByteArray).data.toList 107=0:=by kernel_rfl
 unfold fitV nfV afV lfV kfV mfV;simp only[h105,h110,h103,h97,h116,h102,h109,hk,if_true,if_false,Bool.false_eq_true,Bool.not_true,Bool.not_false,Bool.true_or,Bool.false_or,reduceIte]
theorem fit2 (p:PE) (kids alts:GE):fitV ⟨#[105]⟩ p kids alts=(wholeV p.n && decide (p.name.length=0) && decide (p.arg.length=0) && decide (p.lit.length=0) && decide (kids.len=0) && decide (alts.len=0)):=by
 have h105:hasB ⟨#[105]⟩ 105=true:=by kernel_rfl
 have h110:hasB ⟨#[105]⟩ 110=false:=by kernel_rfl
 have h103:hasB ⟨#[105]⟩ 103=false:=by kernel_rfl
 have h97:hasB ⟨#[105]⟩ 97=false:=by kernel_rfl
 have h116:hasB ⟨#[105]⟩ 116=false:=by kernel_rfl
 have h102:hasB ⟨#[105]⟩ 102=false:=by kernel_rfl
 have h109:hasB ⟨#[105]⟩ 109=false:=by kernel_rfl
 have hk:Lib.countByte (⟨#[105]⟩:ByteArray).data.toList 107=0:=by kernel_rfl
 unfold fitV nfV afV lfV kfV mfV;simp only[h105,h110,h103,h97,h116,h102,h109,hk,if_true,if_false,Bool.false_eq_true,Bool.not_true,Bool.not_false,Bool.true_or,Bool.false_or,reduceIte]
theorem fit3 (p:PE) (kids alts:GE):fitV ⟨#[107]⟩ p kids alts=(true && decide (p.name.length=0) && decide (p.arg.length=0) && decide (p.lit.length=0) && decide (kids.len=1) && decide (alts.len=0)):=by
 have h105:hasB ⟨#[107]⟩ 105=false:=by kernel_rfl
 have h110:hasB ⟨#[107]⟩ 110=false:=by kernel_rfl
 have h103:hasB ⟨#[107]⟩ 103=false:=by kernel_rfl
 have h97:hasB ⟨#[107]⟩ 97=false:=by kernel_rfl
 have h116:hasB ⟨#[107]⟩ 116=false:=by kernel_rfl
 have h102:hasB ⟨#[107]⟩ 102=false:=by kernel_rfl
 have h109:hasB ⟨#[107]⟩ 109=false:=by kernel_rfl
 have hk:Lib.countByte (⟨#[107]⟩:ByteArray).data.toList 107=1:=by kernel_rfl
 unfold fitV nfV afV lfV kfV mfV;simp only[h105,h110,h103,h97,h116,h102,h109,hk,if_true,if_false,Bool.false_eq_true,Bool.not_true,Bool.not_false,Bool.true_or,Bool.false_or,reduceIte]
theorem fit4 (p:PE) (kids alts:GE):fitV ⟨#[107,107]⟩ p kids alts=(true && decide (p.name.length=0) && decide (p.arg.length=0) && decide (p.lit.length=0) && decide (kids.len=2) && decide (alts.len=0)):=by
 have h105:hasB ⟨#[107,107]⟩ 105=false:=by kernel_rfl
 have h110:hasB ⟨#[107,107]⟩ 110=false:=by kernel_rfl
 have h103:hasB ⟨#[107,107]⟩ 103=false:=by kernel_rfl
 have h97:hasB ⟨#[107,107]⟩ 97=false:=by kernel_rfl
 have h116:hasB ⟨#[107,107]⟩ 116=false:=by kernel_rfl
 have h102:hasB ⟨#[107,107]⟩ 102=false:=by kernel_rfl
 have h109:hasB ⟨#[107,107]⟩ 109=false:=by kernel_rfl
 have hk:Lib.countByte (⟨#[107,107]⟩:ByteArray).data.toList 107=2:=by kernel_rfl
 unfold fitV nfV afV lfV kfV mfV;simp only[h105,h110,h103,h97,h116,h102,h109,hk,if_true,if_false,Bool.false_eq_true,Bool.not_true,Bool.not_false,Bool.true_or,Bool.false_or,reduceIte]
theorem fit5 (p:PE) (kids alts:GE):fitV ⟨#[107,107,107]⟩ p kids alts=(true && decide (p.name.length=0) && decide (p.arg.length=0) && decide (p.lit.length=0) && decide (kids.len=3) && decide (alts.len=0)):=by
 have h105:hasB ⟨#[107,107,107]⟩ 105=false:=by kernel_rfl
 have h110:hasB ⟨#[107,107,107]⟩ 110=false:=by kernel_rfl
 have h103:hasB ⟨#[107,107,107]⟩ 103=false:=by kernel_rfl
 have h97:hasB ⟨#[107,107,107]⟩ 97=false:=by kernel_rfl
 have h116:hasB ⟨#[107,107,107]⟩ 116=false:=by kernel_rfl
 have h102:hasB ⟨#[107,107,107]⟩ 102=false:=by kernel_rfl
 have h109:hasB ⟨#[107,107,107]⟩ 109=false:=by kernel_rfl
 have hk:Lib.countByte (⟨#[107,107,107]⟩:ByteArray).data.toList 107=3:=by kernel_rfl
 unfold fitV nfV afV lfV kfV mfV;simp only[h105,h110,h103,h97,h116,h102,h109,hk,if_true,if_false,Bool.false_eq_true,Bool.not_true,Bool.not_false,Bool.true_or,Bool.false_or,reduceIte]
theorem fit6 (p:PE) (kids alts:GE):fitV ⟨#[107,109]⟩ p kids alts=(true && decide (p.name.length=0) && decide (p.arg.length=0) && decide (p.lit.length=0) && decide (kids.len=1) && (decide (1≤alts.len) && decide (alts.len≤6) && !badA alts)):=by
 have h105:hasB ⟨#[107,109]⟩ 105=false:=by kernel_rfl
 have h110:hasB ⟨#[107,109]⟩ 110=false:=by kernel_rfl
 have h103:hasB ⟨#[107,109]⟩ 103=false:=by kernel_rfl
 have h97:hasB ⟨#[107,109]⟩ 97=false:=by kernel_rfl
 have h116:hasB ⟨#[107,109]⟩ 116=false:=by kernel_rfl
 have h102:hasB ⟨#[107,109]⟩ 102=false:=by kernel_rfl
 have h109:hasB ⟨#[107,109]⟩ 109=true:=by kernel_rfl
 have hk:Lib.countByte (⟨#[107,109]⟩:ByteArray).data.toList 107=1:=by kernel_rfl
 unfold fitV nfV afV lfV kfV mfV;simp only[h105,h110,h103,h97,h116,h102,h109,hk,if_true,if_false,Bool.false_eq_true,Bool.not_true,Bool.not_false,Bool.true_or,Bool.false_or,reduceIte]
theorem fit7 (p:PE) (kids alts:GE):fitV ⟨#[107,110,107]⟩ p kids alts=(true && nameV p.name && decide (p.arg.length=0) && decide (p.lit.length=0) && decide (kids.len=2) && decide (alts.len=0)):=by
 have h105:hasB ⟨#[107,110,107]⟩ 105=false:=by kernel_rfl
 have h110:hasB ⟨#[107,110,107]⟩ 110=true:=by kernel_rfl
 have h103:hasB ⟨#[107,110,107]⟩ 103=false:=by kernel_rfl
 have h97:hasB ⟨#[107,110,107]⟩ 97=false:=by kernel_rfl
 have h116:hasB ⟨#[107,110,107]⟩ 116=false:=by kernel_rfl
 have h102:hasB ⟨#[107,110,107]⟩ 102=false:=by kernel_rfl
 have h109:hasB ⟨#[107,110,107]⟩ 109=false:=by kernel_rfl
 have hk:Lib.countByte (⟨#[107,110,107]⟩:ByteArray).data.toList 107=2:=by kernel_rfl
 unfold fitV nfV afV lfV kfV mfV;simp only[h105,h110,h103,h97,h116,h102,h109,hk,if_true,if_false,Bool.false_eq_true,Bool.not_true,Bool.not_false,Bool.true_or,Bool.false_or,reduceIte]
theorem fit8 (p:PE) (kids alts:GE):fitV ⟨#[110]⟩ p kids alts=(true && nameV p.name && decide (p.arg.length=0) && decide (p.lit.length=0) && decide (kids.len=0) && decide (alts.len=0)):=by
 have h105:hasB ⟨#[110]⟩ 105=false:=by kernel_rfl
 have h110:hasB ⟨#[110]⟩ 110=true:=by kernel_rfl
 have h103:hasB ⟨#[110]⟩ 103=false:=by kernel_rfl
 have h97:hasB ⟨#[110]⟩ 97=false:=by kernel_rfl
 have h116:hasB ⟨#[110]⟩ 116=false:=by kernel_rfl
 have h102:hasB ⟨#[110]⟩ 102=false:=by kernel_rfl
 have h109:hasB ⟨#[110]⟩ 109=false:=by kernel_rfl
 have hk:Lib.countByte (⟨#[110]⟩:ByteArray).data.toList 107=0:=by kernel_rfl
 unfold fitV nfV afV lfV kfV mfV;simp only[h105,h110,h103,h97,h116,h102,h109,hk,if_true,if_false,Bool.false_eq_true,Bool.not_true,Bool.not_false,Bool.true_or,Bool.false_or,reduceIte]
theorem fit9 (p:PE) (kids alts:GE):fitV ⟨#[110,107]⟩ p kids alts=(true && nameV p.name && decide (p.arg.length=0) && decide (p.lit.length=0) && decide (kids.len=1) && decide (alts.len=0)):=by
 have h105:hasB ⟨#[110,107]⟩ 105=false:=by kernel_rfl
 have h110:hasB ⟨#[110,107]⟩ 110=true:=by kernel_rfl
 have h103:hasB ⟨#[110,107]⟩ 103=false:=by kernel_rfl
 have h97:hasB ⟨#[110,107]⟩ 97=false:=by kernel_rfl
 have h116:hasB ⟨#[110,107]⟩ 116=false:=by kernel_rfl
 have h102:hasB ⟨#[110,107]⟩ 102=false:=by kernel_rfl
 have h109:hasB ⟨#[110,107]⟩ 109=false:=by kernel_rfl
 have hk:Lib.countByte (⟨#[110,107]⟩:ByteArray).data.toList 107=1:=by kernel_rfl
 unfold fitV nfV afV lfV kfV mfV;simp only[h105,h110,h103,h97,h116,h102,h109,hk,if_true,if_false,Bool.false_eq_true,Bool.not_true,Bool.not_false,Bool.true_or,Bool.false_or,reduceIte]
theorem fit10 (p:PE) (kids alts:GE):fitV ⟨#[110,107,107]⟩ p kids alts=(true && nameV p.name && decide (p.arg.length=0) && decide (p.lit.length=0) && decide (kids.len=2) && decide (alts.len=0)):=by
 have h105:hasB ⟨#[110,107,107]⟩ 105=false:=by kernel_rfl
 have h110:hasB ⟨#[110,107,107]⟩ 110=true:=by kernel_rfl
 have h103:hasB ⟨#[110,107,107]⟩ 103=false:=by kernel_rfl
 have h97:hasB ⟨#[110,107,107]⟩ 97=false:=by kernel_rfl
 have h116:hasB ⟨#[110,107,107]⟩ 116=false:=by kernel_rfl
 have h102:hasB ⟨#[110,107,107]⟩ 102=false:=by kernel_rfl
 have h109:hasB ⟨#[110,107,107]⟩ 109=false:=by kernel_rfl
 have hk:Lib.countByte (⟨#[110,107,107]⟩:ByteArray).data.toList 107=2:=by kernel_rfl
 unfold fitV nfV afV lfV kfV mfV;simp only[h105,h110,h103,h97,h116,h102,h109,hk,if_true,if_false,Bool.false_eq_true,Bool.not_true,Bool.not_false,Bool.true_or,Bool.false_or,reduceIte]
theorem fit11 (p:PE) (kids alts:GE):fitV ⟨#[110,97,107,107]⟩ p kids alts=(true && nameV p.name && (nameV p.arg && !decide (p.arg=p.name)) && decide (p.lit.length=0) && decide (kids.len=2) && decide (alts.len=0)):=by
 have h105:hasB ⟨#[110,97,107,107]⟩ 105=false:=by kernel_rfl
 have h110:hasB ⟨#[110,97,107,107]⟩ 110=true:=by kernel_rfl
 have h103:hasB ⟨#[110,97,107,107]⟩ 103=false:=by kernel_rfl
 have h97:hasB ⟨#[110,97,107,107]⟩ 97=true:=by kernel_rfl
 have h116:hasB ⟨#[110,97,107,107]⟩ 116=false:=by kernel_rfl
 have h102:hasB ⟨#[110,97,107,107]⟩ 102=false:=by kernel_rfl
 have h109:hasB ⟨#[110,97,107,107]⟩ 109=false:=by kernel_rfl
 have hk:Lib.countByte (⟨#[110,97,107,107]⟩:ByteArray).data.toList 107=2:=by kernel_rfl
 unfold fitV nfV afV lfV kfV mfV;simp only[h105,h110,h103,h97,h116,h102,h109,hk,if_true,if_false,Bool.false_eq_true,Bool.not_true,Bool.not_false,Bool.true_or,Bool.false_or,reduceIte]
theorem fit12 (p:PE) (kids alts:GE):fitV ⟨#[116]⟩ p kids alts=(true && decide (p.name.length=0) && decide (p.arg.length=0) && litV p.lit && decide (kids.len=0) && decide (alts.len=0)):=by
 have h105:hasB ⟨#[116]⟩ 105=false:=by kernel_rfl
 have h110:hasB ⟨#[116]⟩ 110=false:=by kernel_rfl
 have h103:hasB ⟨#[116]⟩ 103=false:=by kernel_rfl
 have h97:hasB ⟨#[116]⟩ 97=false:=by kernel_rfl
 have h116:hasB ⟨#[116]⟩ 116=true:=by kernel_rfl
 have h102:hasB ⟨#[116]⟩ 102=false:=by kernel_rfl
 have h109:hasB ⟨#[116]⟩ 109=false:=by kernel_rfl
 have hk:Lib.countByte (⟨#[116]⟩:ByteArray).data.toList 107=0:=by kernel_rfl
 unfold fitV nfV afV lfV kfV mfV;simp only[h105,h110,h103,h97,h116,h102,h109,hk,if_true,if_false,Bool.false_eq_true,Bool.not_true,Bool.not_false,Bool.true_or,Bool.false_or,reduceIte]
theorem okK0 (name arg lit:List Int) (kids alts:GE):okN ⟨0,0,name,arg,lit⟩ kids alts=(spN ⟨0,0,name,arg,lit⟩ kids.len alts.len && !badA alts):=by
 have hs:shapeV 0 0 kids.len=(0,false,false):=rfl;have hb:alts.len=0→badA alts=false:=badA_len;have hi:decide ((0:Int)=(kids.len:Int))=decide (kids.len=0):=int_dec 0 kids.len
 have h2:c2B false 0 name=false:=by simp [c2B]
 have h3:c3B 0 name kids.len=false:=by simp [c3B,gt3_not]
 have h4:=c4ff name arg
 have h5:c5B 0 0=false:=by simp [c5B]
 have h6:c6B 0 lit = !decide (lit.length=0):=by simp only[c6B,pos_not];simp
 have h7:armsB 0 alts.len=decide (alts.len=0):=by simp [armsB]
 unfold okN formR spN;simp only[hs,form0,Option.getD_some,Option.isSome_some,fit0,Bool.true_and];rw[hi,h2,h3,h4,h5,h6,h7]
 cases hA:decide (alts.len=0) with
 | true =>
  have hb2:=hb (by simpa using hA);rw[hb2];generalize decide (name.length=0)=x0;generalize decide (arg.length=0)=x1;generalize decide (lit.length=0)=x2;generalize decide (kids.len=0)=x3
  cases x0 <;> cases x1 <;> cases x2 <;> cases x3 <;> rfl
 | false=>simp
theorem okK1 (n:Int) (name arg lit:List Int) (kids alts:GE):okN ⟨1,n,name,arg,lit⟩ kids alts=(spN ⟨1,n,name,arg,lit⟩ kids.len alts.len && !badA alts):=by
 have hs:shapeV 1 n kids.len=(0,false,false):=rfl;have hb:alts.len=0→badA alts=false:=badA_len;have hi:decide ((0:Int)=(kids.len:Int))=decide (kids.len=0):=int_dec 0 kids.len
 have h2:c2B false 1 name=false:=by simp [c2B]
 have h3:c3B 1 name kids.len=false:=by simp [c3B,gt3_not]
 have h4:=c4ff name arg
 have h5:c5B 1 n = !wholeV n:=by simp [c5B]
 have h6:c6B 1 lit = !decide (lit.length=0):=by simp only[c6B,pos_not];simp
 have h7:armsB 1 alts.len=decide (alts.len=0):=by simp [armsB]
 unfold okN formR spN;simp only[hs,form1 n,Option.getD_some,Option.isSome_some,fit2,Bool.true_and];rw[hi,h2,h3,h4,h5,h6,h7]
 cases hA:decide (alts.len=0) with
 | true =>
  have hb2:=hb (by simpa using hA);rw[hb2];generalize decide (name.length=0)=x0;generalize decide (arg.length=0)=x1;generalize decide (lit.length=0)=x2;generalize decide (kids.len=0)=x3;generalize wholeV n=x4
  cases x0 <;> cases x1 <;> cases x2 <;> cases x3 <;> cases x4 <;> rfl
 | false=>simp
theorem okK2 (name arg lit:List Int) (kids alts:GE):okN ⟨2,0,name,arg,lit⟩ kids alts=(spN ⟨2,0,name,arg,lit⟩ kids.len alts.len && !badA alts):=by
 have hs:shapeV 2 0 kids.len=(0,false,false):=rfl;have hb:alts.len=0→badA alts=false:=badA_len;have hi:decide ((0:Int)=(kids.len:Int))=decide (kids.len=0):=int_dec 0 kids.len
 have h2:c2B false 2 name=false:=by simp [c2B]
 have h3:c3B 2 name kids.len=false:=by simp [c3B,gt3_not]
 have h4:=c4ff name arg
 have h5:c5B 2 0=false:=by simp [c5B]
 have h6:c6B 2 lit = !litV lit:=by simp only[c6B,pos_not];simp
 have h7:armsB 2 alts.len=decide (alts.len=0):=by simp [armsB]
 unfold okN formR spN;simp only[hs,form2,Option.getD_some,Option.isSome_some,fit12,Bool.true_and];rw[hi,h2,h3,h4,h5,h6,h7]
 cases hA:decide (alts.len=0) with
 | true =>
  have hb2:=hb (by simpa using hA);rw[hb2];generalize litV lit=x0;generalize decide (name.length=0)=x1;generalize decide (arg.length=0)=x2;generalize decide (kids.len=0)=x3
  cases x0 <;> cases x1 <;> cases x2 <;> cases x3 <;> rfl
 | false=>simp
theorem okK3 (name arg lit:List Int) (kids alts:GE):okN ⟨3,0,name,arg,lit⟩ kids alts=(spN ⟨3,0,name,arg,lit⟩ kids.len alts.len && !badA alts):=by
 have hs:shapeV 3 0 kids.len=(0,true,false):=rfl;have hb:alts.len=0→badA alts=false:=badA_len;have hi:decide ((0:Int)=(kids.len:Int))=decide (kids.len=0):=int_dec 0 kids.len
 have h2:c2B true 3 name = !nameV name:=by simp [c2B]
 have h3:c3B 3 name kids.len=false:=by simp [c3B,gt3_not]
 have h4:c4B true false name arg = !decide (arg.length=0):=by simp only[c4B,pos_not,Bool.not_true,Bool.not_false,Bool.true_and,Bool.false_and,Bool.false_or,Bool.or_false]
 have h5:c5B 3 0=false:=by simp [c5B]
 have h6:c6B 3 lit = !decide (lit.length=0):=by simp only[c6B,pos_not];simp
 have h7:armsB 3 alts.len=decide (alts.len=0):=by simp [armsB]
 unfold okN formR spN;simp only[hs,form3,Option.getD_some,Option.isSome_some,fit8,Bool.true_and];rw[hi,h2,h3,h4,h5,h6,h7]
 cases hA:decide (alts.len=0) with
 | true =>
  have hb2:=hb (by simpa using hA);rw[hb2];generalize nameV name=x0;generalize decide (arg.length=0)=x1;generalize decide (lit.length=0)=x2;generalize decide (kids.len=0)=x3
  cases x0 <;> cases x1 <;> cases x2 <;> cases x3 <;> rfl
 | false=>simp
theorem okK4 (name arg lit:List Int) (kids alts:GE):okN ⟨4,0,name,arg,lit⟩ kids alts=(spN ⟨4,0,name,arg,lit⟩ kids.len alts.len && !badA alts):=by
 have hs:shapeV 4 0 kids.len=(1,true,false):=rfl;have hb:alts.len=0→badA alts=false:=badA_len;have hi:decide ((1:Int)=(kids.len:Int))=decide (kids.len=1):=int_dec 1 kids.len
 have h2:c2B true 4 name = !nameV name:=by simp [c2B]
 have h3:c3B 4 name kids.len=false:=by simp [c3B,gt3_not]
 have h4:c4B true false name arg = !decide (arg.length=0):=by simp only[c4B,pos_not,Bool.not_true,Bool.not_false,Bool.true_and,Bool.false_and,Bool.false_or,Bool.or_false]
 have h5:c5B 4 0=false:=by simp [c5B]
 have h6:c6B 4 lit = !decide (lit.length=0):=by simp only[c6B,pos_not];simp
 have h7:armsB 4 alts.len=decide (alts.len=0):=by simp [armsB]
 unfold okN formR spN;simp only[hs,form4,Option.getD_some,Option.isSome_some,fit9,Bool.true_and];rw[hi,h2,h3,h4,h5,h6,h7]
 cases hA:decide (alts.len=0) with
 | true =>
  have hb2:=hb (by simpa using hA);rw[hb2];generalize nameV name=x0;generalize decide (arg.length=0)=x1;generalize decide (lit.length=0)=x2;generalize decide (kids.len=1)=x3
  cases x0 <;> cases x1 <;> cases x2 <;> cases x3 <;> rfl
 | false=>simp
theorem okK5 (name arg lit:List Int) (kids alts:GE):okN ⟨5,0,name,arg,lit⟩ kids alts=(spN ⟨5,0,name,arg,lit⟩ kids.len alts.len && !badA alts):=by
 have hs:shapeV 5 0 kids.len=(2,false,false):=rfl;have hb:alts.len=0→badA alts=false:=badA_len;have hi:decide ((2:Int)=(kids.len:Int))=decide (kids.len=2):=int_dec 2 kids.len
 have h2:c2B false 5 name=false:=by simp [c2B]
 have h3:c3B 5 name kids.len=false:=by simp [c3B,gt3_not]
 have h4:=c4ff name arg
 have h5:c5B 5 0=false:=by simp [c5B]
 have h6:c6B 5 lit = !decide (lit.length=0):=by simp only[c6B,pos_not];simp
 have h7:armsB 5 alts.len=decide (alts.len=0):=by simp [armsB]
 unfold okN formR spN;simp only[hs,form5,Option.getD_some,Option.isSome_some,fit4,Bool.true_and];rw[hi,h2,h3,h4,h5,h6,h7]
 cases hA:decide (alts.len=0) with
 | true =>
  have hb2:=hb (by simpa using hA);rw[hb2];generalize decide (name.length=0)=x0;generalize decide (arg.length=0)=x1;generalize decide (lit.length=0)=x2;generalize decide (kids.len=2)=x3
  cases x0 <;> cases x1 <;> cases x2 <;> cases x3 <;> rfl
 | false=>simp
theorem okK6 (name arg lit:List Int) (kids alts:GE):okN ⟨6,0,name,arg,lit⟩ kids alts=(spN ⟨6,0,name,arg,lit⟩ kids.len alts.len && !badA alts):=by
 have hs:shapeV 6 0 kids.len=(2,true,false):=rfl;have hb:alts.len=0→badA alts=false:=badA_len;have hi:decide ((2:Int)=(kids.len:Int))=decide (kids.len=2):=int_dec 2 kids.len
 have h2:c2B true 6 name = !nameV name:=by simp [c2B]
 have h3:c3B 6 name kids.len=false:=by simp [c3B,gt3_not]
 have h4:c4B true false name arg = !decide (arg.length=0):=by simp only[c4B,pos_not,Bool.not_true,Bool.not_false,Bool.true_and,Bool.false_and,Bool.false_or,Bool.or_false]
 have h5:c5B 6 0=false:=by simp [c5B]
 have h6:c6B 6 lit = !decide (lit.length=0):=by simp only[c6B,pos_not];simp
 have h7:armsB 6 alts.len=decide (alts.len=0):=by simp [armsB]
 unfold okN formR spN;simp only[hs,form6,Option.getD_some,Option.isSome_some,fit10,Bool.true_and];rw[hi,h2,h3,h4,h5,h6,h7]
 cases hA:decide (alts.len=0) with
 | true =>
  have hb2:=hb (by simpa using hA);rw[hb2];generalize nameV name=x0;generalize decide (arg.length=0)=x1;generalize decide (lit.length=0)=x2;generalize decide (kids.len=2)=x3
  cases x0 <;> cases x1 <;> cases x2 <;> cases x3 <;> rfl
 | false=>simp
theorem okK7 (name arg lit:List Int) (kids alts:GE):okN ⟨7,0,name,arg,lit⟩ kids alts=(spN ⟨7,0,name,arg,lit⟩ kids.len alts.len && !badA alts):=by
 have hs:shapeV 7 0 kids.len=(2,true,true):=rfl;have hb:alts.len=0→badA alts=false:=badA_len;have hi:decide ((2:Int)=(kids.len:Int))=decide (kids.len=2):=int_dec 2 kids.len
 have h2:c2B true 7 name = !nameV name:=by simp [c2B]
 have h3:c3B 7 name kids.len=false:=by simp [c3B,gt3_not]
 have h4:c4B true true name arg=(!nameV arg || decide (arg=name)):=by simp only[c4B,pos_not,Bool.not_true,Bool.not_false,Bool.true_and,Bool.false_and,Bool.false_or,Bool.or_false]
 have h5:c5B 7 0=false:=by simp [c5B]
 have h6:c6B 7 lit = !decide (lit.length=0):=by simp only[c6B,pos_not];simp
 have h7:armsB 7 alts.len=decide (alts.len=0):=by simp [armsB]
 unfold okN formR spN;simp only[hs,form7,Option.getD_some,Option.isSome_some,fit11,Bool.true_and];rw[hi,h2,h3,h4,h5,h6,h7]
 cases hA:decide (alts.len=0) with
 | true =>
  have hb2:=hb (by simpa using hA);rw[hb2];generalize nameV name=x0;generalize nameV arg=x1;generalize decide (arg=name)=x2;generalize decide (lit.length=0)=x3;generalize decide (kids.len=2)=x4
  cases x0 <;> cases x1 <;> cases x2 <;> cases x3 <;> cases x4 <;> rfl
 | false=>simp
theorem okK8 (name arg lit:List Int) (kids alts:GE):okN ⟨8,0,name,arg,lit⟩ kids alts=(spN ⟨8,0,name,arg,lit⟩ kids.len alts.len && !badA alts):=by
 have hs:shapeV 8 0 kids.len=(3,false,false):=rfl;have hb:alts.len=0→badA alts=false:=badA_len;have hi:decide ((3:Int)=(kids.len:Int))=decide (kids.len=3):=int_dec 3 kids.len
 have h2:c2B false 8 name=false:=by simp [c2B]
 have h3:c3B 8 name kids.len=false:=by simp [c3B,gt3_not]
 have h4:=c4ff name arg
 have h5:c5B 8 0=false:=by simp [c5B]
 have h6:c6B 8 lit = !decide (lit.length=0):=by simp only[c6B,pos_not];simp
 have h7:armsB 8 alts.len=decide (alts.len=0):=by simp [armsB]
 unfold okN formR spN;simp only[hs,form8,Option.getD_some,Option.isSome_some,fit5,Bool.true_and];rw[hi,h2,h3,h4,h5,h6,h7]
 cases hA:decide (alts.len=0) with
 | true =>
  have hb2:=hb (by simpa using hA);rw[hb2];generalize decide (name.length=0)=x0;generalize decide (arg.length=0)=x1;generalize decide (lit.length=0)=x2;generalize decide (kids.len=3)=x3
  cases x0 <;> cases x1 <;> cases x2 <;> cases x3 <;> rfl
 | false=>simp
theorem okK9 (name arg lit:List Int) (kids alts:GE):okN ⟨9,0,name,arg,lit⟩ kids alts=(spN ⟨9,0,name,arg,lit⟩ kids.len alts.len && !badA alts):=by
 have hs:shapeV 9 0 kids.len=(2,false,false):=rfl;have hb:alts.len=0→badA alts=false:=badA_len;have hi:decide ((2:Int)=(kids.len:Int))=decide (kids.len=2):=int_dec 2 kids.len
 have h2:c2B false 9 name=false:=by simp [c2B]
 have h3:c3B 9 name kids.len=false:=by simp [c3B,gt3_not]
 have h4:=c4ff name arg
 have h5:c5B 9 0=false:=by simp [c5B]
 have h6:c6B 9 lit = !decide (lit.length=0):=by simp only[c6B,pos_not];simp
 have h7:armsB 9 alts.len=decide (alts.len=0):=by simp [armsB]
 unfold okN formR spN;simp only[hs,form9,Option.getD_some,Option.isSome_some,fit4,Bool.true_and];rw[hi,h2,h3,h4,h5,h6,h7]
 cases hA:decide (alts.len=0) with
 | true =>
  have hb2:=hb (by simpa using hA);rw[hb2];generalize decide (name.length=0)=x0;generalize decide (arg.length=0)=x1;generalize decide (lit.length=0)=x2;generalize decide (kids.len=2)=x3
  cases x0 <;> cases x1 <;> cases x2 <;> cases x3 <;> rfl
 | false=>simp
theorem okK10 (name arg lit:List Int) (kids alts:GE):okN ⟨10,0,name,arg,lit⟩ kids alts=(spN ⟨10,0,name,arg,lit⟩ kids.len alts.len && !badA alts):=by
 have hs:shapeV 10 0 kids.len=(1,false,false):=rfl;have hb:alts.len=0→badA alts=false:=badA_len;have hi:decide ((1:Int)=(kids.len:Int))=decide (kids.len=1):=int_dec 1 kids.len
 have h2:c2B false 10 name=false:=by simp [c2B]
 have h3:c3B 10 name kids.len=false:=by simp [c3B,gt3_not]
 have h4:=c4ff name arg
 have h5:c5B 10 0=false:=by simp [c5B]
 have h6:c6B 10 lit = !decide (lit.length=0):=by simp only[c6B,pos_not];simp
 have h7:armsB 10 alts.len=decide (alts.len=0):=by simp [armsB]
 unfold okN formR spN;simp only[hs,form10,Option.getD_some,Option.isSome_some,fit3,Bool.true_and];rw[hi,h2,h3,h4,h5,h6,h7]
 cases hA:decide (alts.len=0) with
 | true =>
  have hb2:=hb (by simpa using hA);rw[hb2];generalize decide (name.length=0)=x0;generalize decide (arg.length=0)=x1;generalize decide (lit.length=0)=x2;generalize decide (kids.len=1)=x3
  cases x0 <;> cases x1 <;> cases x2 <;> cases x3 <;> rfl
 | false=>simp
theorem okK11 (name arg lit:List Int) (kids alts:GE):okN ⟨11,0,name,arg,lit⟩ kids alts=(spN ⟨11,0,name,arg,lit⟩ kids.len alts.len && !badA alts):=by
 have hs:shapeV 11 0 kids.len=(1,false,false):=rfl;have hb:alts.len=0→badA alts=false:=badA_len;have hi:decide ((1:Int)=(kids.len:Int))=decide (kids.len=1):=int_dec 1 kids.len
 have h2:c2B false 11 name=false:=by simp [c2B]
 have h3:c3B 11 name kids.len=false:=by simp [c3B,gt3_not]
 have h4:=c4ff name arg
 have h5:c5B 11 0=false:=by simp [c5B]
 have h6:c6B 11 lit = !decide (lit.length=0):=by simp only[c6B,pos_not];simp
 have h7:armsB 11 alts.len=decide (alts.len=0):=by simp [armsB]
 unfold okN formR spN;simp only[hs,form11,Option.getD_some,Option.isSome_some,fit3,Bool.true_and];rw[hi,h2,h3,h4,h5,h6,h7]
 cases hA:decide (alts.len=0) with
 | true =>
  have hb2:=hb (by simpa using hA);rw[hb2];generalize decide (name.length=0)=x0;generalize decide (arg.length=0)=x1;generalize decide (lit.length=0)=x2;generalize decide (kids.len=1)=x3
  cases x0 <;> cases x1 <;> cases x2 <;> cases x3 <;> rfl
 | false=>simp
theorem okK12 (name arg lit:List Int) (kids alts:GE):okN ⟨12,0,name,arg,lit⟩ kids alts=(spN ⟨12,0,name,arg,lit⟩ kids.len alts.len && !badA alts):=by
 have hs:shapeV 12 0 kids.len=(1,false,false):=rfl;have hb:alts.len=0→badA alts=false:=badA_len;have hi:decide ((1:Int)=(kids.len:Int))=decide (kids.len=1):=int_dec 1 kids.len
 have h2:c2B false 12 name=false:=by simp [c2B]
 have h3:c3B 12 name kids.len=false:=by simp [c3B,gt3_not]
 have h4:=c4ff name arg
 have h5:c5B 12 0=false:=by simp [c5B]
 have h6:c6B 12 lit = !decide (lit.length=0):=by simp only[c6B,pos_not];simp
 have h7:armsB 12 alts.len=decide (alts.len=0):=by simp [armsB]
 unfold okN formR spN;simp only[hs,form12,Option.getD_some,Option.isSome_some,fit3,Bool.true_and];rw[hi,h2,h3,h4,h5,h6,h7]
 cases hA:decide (alts.len=0) with
 | true =>
  have hb2:=hb (by simpa using hA);rw[hb2];generalize decide (name.length=0)=x0;generalize decide (arg.length=0)=x1;generalize decide (lit.length=0)=x2;generalize decide (kids.len=1)=x3
  cases x0 <;> cases x1 <;> cases x2 <;> cases x3 <;> rfl
 | false=>simp
theorem okK13 (name arg lit:List Int) (kids alts:GE):okN ⟨13,0,name,arg,lit⟩ kids alts=(spN ⟨13,0,name,arg,lit⟩ kids.len alts.len && !badA alts):=by
 have hs:shapeV 13 0 kids.len=(1,false,false):=rfl;have hb:alts.len=0→badA alts=false:=badA_len;have hi:decide ((1:Int)=(kids.len:Int))=decide (kids.len=1):=int_dec 1 kids.len
 have h2:c2B false 13 name=false:=by simp [c2B]
 have h3:c3B 13 name kids.len=false:=by simp [c3B,gt3_not]
 have h4:=c4ff name arg
 have h5:c5B 13 0=false:=by simp [c5B]
 have h6:c6B 13 lit = !decide (lit.length=0):=by simp only[c6B,pos_not];simp
 have h7:armsB 13 alts.len=decide (alts.len=0):=by simp [armsB]
 unfold okN formR spN;simp only[hs,form13,Option.getD_some,Option.isSome_some,fit3,Bool.true_and];rw[hi,h2,h3,h4,h5,h6,h7]
 cases hA:decide (alts.len=0) with
 | true =>
  have hb2:=hb (by simpa using hA);rw[hb2];generalize decide (name.length=0)=x0;generalize decide (arg.length=0)=x1;generalize decide (lit.length=0)=x2;generalize decide (kids.len=1)=x3
  cases x0 <;> cases x1 <;> cases x2 <;> cases x3 <;> rfl
 | false=>simp
theorem okK14 (name arg lit:List Int) (kids alts:GE):okN ⟨14,0,name,arg,lit⟩ kids alts=(spN ⟨14,0,name,arg,lit⟩ kids.len alts.len && !badA alts):=by
 have hs:shapeV 14 0 kids.len=(2,false,false):=rfl;have hb:alts.len=0→badA alts=false:=badA_len;have hi:decide ((2:Int)=(kids.len:Int))=decide (kids.len=2):=int_dec 2 kids.len
 have h2:c2B false 14 name=false:=by simp [c2B]
 have h3:c3B 14 name kids.len=false:=by simp [c3B,gt3_not]
 have h4:=c4ff name arg
 have h5:c5B 14 0=false:=by simp [c5B]
 have h6:c6B 14 lit = !decide (lit.length=0):=by simp only[c6B,pos_not];simp
 have h7:armsB 14 alts.len=decide (alts.len=0):=by simp [armsB]
 unfold okN formR spN;simp only[hs,form14,Option.getD_some,Option.isSome_some,fit4,Bool.true_and];rw[hi,h2,h3,h4,h5,h6,h7]
 cases hA:decide (alts.len=0) with
 | true =>
  have hb2:=hb (by simpa using hA);rw[hb2];generalize decide (name.length=0)=x0;generalize decide (arg.length=0)=x1;generalize decide (lit.length=0)=x2;generalize decide (kids.len=2)=x3
  cases x0 <;> cases x1 <;> cases x2 <;> cases x3 <;> rfl
 | false=>simp
theorem okK15 (name arg lit:List Int) (kids alts:GE):okN ⟨15,0,name,arg,lit⟩ kids alts=(spN ⟨15,0,name,arg,lit⟩ kids.len alts.len && !badA alts):=by
 have hs:shapeV 15 0 kids.len=((kids.len:Int),true,false):=rfl;have hb:alts.len=0→badA alts=false:=badA_len
 have hi:decide ((kids.len:Int)=(kids.len:Int))=true:=by simp
 have h2:c2B true 15 name=false:=by simp [c2B]
 have h3:c3B 15 name kids.len=(!wordV 65 90 name || !decide (kids.len≤3)):=by simp [c3B,gt3_not]
 have h4:c4B true false name arg = !decide (arg.length=0):=by simp only[c4B,pos_not,Bool.not_true,Bool.not_false,Bool.true_and,Bool.false_and,Bool.false_or,Bool.or_false]
 have h5:c5B 15 0=false:=by simp [c5B]
 have h6:c6B 15 lit = !decide (lit.length=0):=by simp only[c6B,pos_not];simp
 have h7:armsB 15 alts.len=decide (alts.len=0):=by simp [armsB]
 unfold okN formR spN;simp only[hs,form15,Option.getD_some,Option.isSome_some,fit1,Bool.true_and];rw[h2,h3,h4,h5,h6,h7]
 cases hA:decide (alts.len=0) with
 | true =>
  have hb2:=hb (by simpa using hA);rw[hb2];generalize wordV 65 90 name=x0;generalize decide (arg.length=0)=x1;generalize decide (lit.length=0)=x2;generalize decide (kids.len≤3)=x3
  cases x0 <;> cases x1 <;> cases x2 <;> cases x3 <;> rfl
 | false=>simp
theorem okK16 (name arg lit:List Int) (kids alts:GE):okN ⟨16,0,name,arg,lit⟩ kids alts=(spN ⟨16,0,name,arg,lit⟩ kids.len alts.len && !badA alts):=by
 have hs:shapeV 16 0 kids.len=(1,false,false):=rfl;have hb:alts.len=0→badA alts=false:=badA_len;have hi:decide ((1:Int)=(kids.len:Int))=decide (kids.len=1):=int_dec 1 kids.len
 have h2:c2B false 16 name=false:=by simp [c2B]
 have h3:c3B 16 name kids.len=false:=by simp [c3B,gt3_not]
 have h4:=c4ff name arg
 have h5:c5B 16 0=false:=by simp [c5B]
 have h6:c6B 16 lit = !decide (lit.length=0):=by simp only[c6B,pos_not];simp
 have h7:armsB 16 alts.len=(decide (1≤alts.len) && decide (alts.len≤6)):=by simp [armsB]
 unfold okN formR spN;simp only[hs,form16,Option.getD_some,Option.isSome_some,fit6,Bool.true_and];rw[hi,h2,h3,h4,h5,h6,h7]
 cases hA:decide (alts.len=0) with
 | true =>
  have hA2:alts.len=0:=by simpa using hA
  simp [hA2]
 | false =>
  generalize decide (1≤alts.len)=y0;generalize decide (alts.len≤6)=y1;generalize badA alts=y2;generalize decide (name.length=0)=x0;generalize decide (arg.length=0)=x1;generalize decide (lit.length=0)=x2;generalize decide (kids.len=1)=x3
  cases y0 <;> cases y1 <;> cases y2 <;> cases x0 <;> cases x1 <;> cases x2 <;> cases x3 <;> rfl
theorem okK17 (name arg lit:List Int) (kids alts:GE):okN ⟨17,0,name,arg,lit⟩ kids alts=(spN ⟨17,0,name,arg,lit⟩ kids.len alts.len && !badA alts):=by
 have hs:shapeV 17 0 kids.len=(1,false,false):=rfl;have hb:alts.len=0→badA alts=false:=badA_len;have hi:decide ((1:Int)=(kids.len:Int))=decide (kids.len=1):=int_dec 1 kids.len
 have h2:c2B false 17 name=false:=by simp [c2B]
 have h3:c3B 17 name kids.len=false:=by simp [c3B,gt3_not]
 have h4:=c4ff name arg
 have h5:c5B 17 0=false:=by simp [c5B]
 have h6:c6B 17 lit = !decide (lit.length=0):=by simp only[c6B,pos_not];simp
 have h7:armsB 17 alts.len=decide (alts.len=0):=by simp [armsB]
 unfold okN formR spN;simp only[hs,form17,Option.getD_some,Option.isSome_some,fit3,Bool.true_and];rw[hi,h2,h3,h4,h5,h6,h7]
 cases hA:decide (alts.len=0) with
 | true =>
  have hb2:=hb (by simpa using hA);rw[hb2];generalize decide (name.length=0)=x0;generalize decide (arg.length=0)=x1;generalize decide (lit.length=0)=x2;generalize decide (kids.len=1)=x3
  cases x0 <;> cases x1 <;> cases x2 <;> cases x3 <;> rfl
 | false=>simp
theorem okK18 (name arg lit:List Int) (kids alts:GE):okN ⟨18,0,name,arg,lit⟩ kids alts=(spN ⟨18,0,name,arg,lit⟩ kids.len alts.len && !badA alts):=by
 have hs:shapeV 18 0 kids.len=(2,true,false):=rfl;have hb:alts.len=0→badA alts=false:=badA_len;have hi:decide ((2:Int)=(kids.len:Int))=decide (kids.len=2):=int_dec 2 kids.len
 have h2:c2B true 18 name = !nameV name:=by simp [c2B]
 have h3:c3B 18 name kids.len=false:=by simp [c3B,gt3_not]
 have h4:c4B true false name arg = !decide (arg.length=0):=by simp only[c4B,pos_not,Bool.not_true,Bool.not_false,Bool.true_and,Bool.false_and,Bool.false_or,Bool.or_false]
 have h5:c5B 18 0=false:=by simp [c5B]
 have h6:c6B 18 lit = !decide (lit.length=0):=by simp only[c6B,pos_not];simp
 have h7:armsB 18 alts.len=decide (alts.len=0):=by simp [armsB]
 unfold okN formR spN;simp only[hs,form18,Option.getD_some,Option.isSome_some,fit7,Bool.true_and];rw[hi,h2,h3,h4,h5,h6,h7]
 cases hA:decide (alts.len=0) with
 | true =>
  have hb2:=hb (by simpa using hA);rw[hb2];generalize nameV name=x0;generalize decide (arg.length=0)=x1;generalize decide (lit.length=0)=x2;generalize decide (kids.len=2)=x3
  cases x0 <;> cases x1 <;> cases x2 <;> cases x3 <;> rfl
 | false=>simp
theorem okK19_0 (name arg lit:List Int) (kids alts:GE):okN ⟨19,0,name,arg,lit⟩ kids alts=(spN ⟨19,0,name,arg,lit⟩ kids.len alts.len && !badA alts):=by
 have hs:shapeV 19 0 kids.len=(2,false,false):=rfl;have hb:alts.len=0→badA alts=false:=badA_len;have hi:decide ((2:Int)=(kids.len:Int))=decide (kids.len=2):=int_dec 2 kids.len
 have h2:c2B false 19 name=false:=by simp [c2B]
 have h3:c3B 19 name kids.len=false:=by simp [c3B,gt3_not]
 have h4:=c4ff name arg
 have h5:c5B 19 0=false:=by simp [c5B]
 have h6:c6B 19 lit = !decide (lit.length=0):=by simp only[c6B,pos_not];simp
 have h7:armsB 19 alts.len=decide (alts.len=0):=by simp [armsB]
 unfold okN formR spN;simp only[hs,form19_0,Option.getD_some,Option.isSome_some,fit4,Bool.true_and];rw[hi,h2,h3,h4,h5,h6,h7]
 cases hA:decide (alts.len=0) with
 | true =>
  have hb2:=hb (by simpa using hA);rw[hb2];generalize decide (name.length=0)=x0;generalize decide (arg.length=0)=x1;generalize decide (lit.length=0)=x2;generalize decide (kids.len=2)=x3
  cases x0 <;> cases x1 <;> cases x2 <;> cases x3 <;> rfl
 | false=>simp
theorem okK19_1 (name arg lit:List Int) (kids alts:GE):okN ⟨19,1,name,arg,lit⟩ kids alts=(spN ⟨19,1,name,arg,lit⟩ kids.len alts.len && !badA alts):=by
 have hs:shapeV 19 1 kids.len=(2,false,false):=rfl;have hb:alts.len=0→badA alts=false:=badA_len;have hi:decide ((2:Int)=(kids.len:Int))=decide (kids.len=2):=int_dec 2 kids.len
 have h2:c2B false 19 name=false:=by simp [c2B]
 have h3:c3B 19 name kids.len=false:=by simp [c3B,gt3_not]
 have h4:=c4ff name arg
 have h5:c5B 19 1=false:=by simp [c5B]
 have h6:c6B 19 lit = !decide (lit.length=0):=by simp only[c6B,pos_not];simp
 have h7:armsB 19 alts.len=decide (alts.len=0):=by simp [armsB]
 unfold okN formR spN;simp only[hs,form19_1,Option.getD_some,Option.isSome_some,fit4,Bool.true_and];rw[hi,h2,h3,h4,h5,h6,h7]
 cases hA:decide (alts.len=0) with
 | true =>
  have hb2:=hb (by simpa using hA);rw[hb2];generalize decide (name.length=0)=x0;generalize decide (arg.length=0)=x1;generalize decide (lit.length=0)=x2;generalize decide (kids.len=2)=x3
  cases x0 <;> cases x1 <;> cases x2 <;> cases x3 <;> rfl
 | false=>simp
theorem okK19_2 (name arg lit:List Int) (kids alts:GE):okN ⟨19,2,name,arg,lit⟩ kids alts=(spN ⟨19,2,name,arg,lit⟩ kids.len alts.len && !badA alts):=by
 have hs:shapeV 19 2 kids.len=(2,false,false):=rfl;have hb:alts.len=0→badA alts=false:=badA_len;have hi:decide ((2:Int)=(kids.len:Int))=decide (kids.len=2):=int_dec 2 kids.len
 have h2:c2B false 19 name=false:=by simp [c2B]
 have h3:c3B 19 name kids.len=false:=by simp [c3B,gt3_not]
 have h4:=c4ff name arg
 have h5:c5B 19 2=false:=by simp [c5B]
 have h6:c6B 19 lit = !decide (lit.length=0):=by simp only[c6B,pos_not];simp
 have h7:armsB 19 alts.len=decide (alts.len=0):=by simp [armsB]
 unfold okN formR spN;simp only[hs,form19_2,Option.getD_some,Option.isSome_some,fit4,Bool.true_and];rw[hi,h2,h3,h4,h5,h6,h7]
 cases hA:decide (alts.len=0) with
 | true =>
  have hb2:=hb (by simpa using hA);rw[hb2];generalize decide (name.length=0)=x0;generalize decide (arg.length=0)=x1;generalize decide (lit.length=0)=x2;generalize decide (kids.len=2)=x3
  cases x0 <;> cases x1 <;> cases x2 <;> cases x3 <;> rfl
 | false=>simp
theorem okK19_3 (name arg lit:List Int) (kids alts:GE):okN ⟨19,3,name,arg,lit⟩ kids alts=(spN ⟨19,3,name,arg,lit⟩ kids.len alts.len && !badA alts):=by
 have hs:shapeV 19 3 kids.len=(2,false,false):=rfl;have hb:alts.len=0→badA alts=false:=badA_len;have hi:decide ((2:Int)=(kids.len:Int))=decide (kids.len=2):=int_dec 2 kids.len
 have h2:c2B false 19 name=false:=by simp [c2B]
 have h3:c3B 19 name kids.len=false:=by simp [c3B,gt3_not]
 have h4:=c4ff name arg
 have h5:c5B 19 3=false:=by simp [c5B]
 have h6:c6B 19 lit = !decide (lit.length=0):=by simp only[c6B,pos_not];simp
 have h7:armsB 19 alts.len=decide (alts.len=0):=by simp [armsB]
 unfold okN formR spN;simp only[hs,form19_3,Option.getD_some,Option.isSome_some,fit4,Bool.true_and];rw[hi,h2,h3,h4,h5,h6,h7]
 cases hA:decide (alts.len=0) with
 | true =>
  have hb2:=hb (by simpa using hA);rw[hb2];generalize decide (name.length=0)=x0;generalize decide (arg.length=0)=x1;generalize decide (lit.length=0)=x2;generalize decide (kids.len=2)=x3
  cases x0 <;> cases x1 <;> cases x2 <;> cases x3 <;> rfl
 | false=>simp
theorem okK19_4 (name arg lit:List Int) (kids alts:GE):okN ⟨19,4,name,arg,lit⟩ kids alts=(spN ⟨19,4,name,arg,lit⟩ kids.len alts.len && !badA alts):=by
 have hs:shapeV 19 4 kids.len=(2,false,false):=rfl;have hb:alts.len=0→badA alts=false:=badA_len;have hi:decide ((2:Int)=(kids.len:Int))=decide (kids.len=2):=int_dec 2 kids.len
 have h2:c2B false 19 name=false:=by simp [c2B]
 have h3:c3B 19 name kids.len=false:=by simp [c3B,gt3_not]
 have h4:=c4ff name arg
 have h5:c5B 19 4=false:=by simp [c5B]
 have h6:c6B 19 lit = !decide (lit.length=0):=by simp only[c6B,pos_not];simp
 have h7:armsB 19 alts.len=decide (alts.len=0):=by simp [armsB]
 unfold okN formR spN;simp only[hs,form19_4,Option.getD_some,Option.isSome_some,fit4,Bool.true_and];rw[hi,h2,h3,h4,h5,h6,h7]
 cases hA:decide (alts.len=0) with
 | true =>
  have hb2:=hb (by simpa using hA);rw[hb2];generalize decide (name.length=0)=x0;generalize decide (arg.length=0)=x1;generalize decide (lit.length=0)=x2;generalize decide (kids.len=2)=x3
  cases x0 <;> cases x1 <;> cases x2 <;> cases x3 <;> rfl
 | false=>simp
theorem okK19_5 (name arg lit:List Int) (kids alts:GE):okN ⟨19,5,name,arg,lit⟩ kids alts=(spN ⟨19,5,name,arg,lit⟩ kids.len alts.len && !badA alts):=by
 have hs:shapeV 19 5 kids.len=(2,false,false):=rfl;have hb:alts.len=0→badA alts=false:=badA_len;have hi:decide ((2:Int)=(kids.len:Int))=decide (kids.len=2):=int_dec 2 kids.len
 have h2:c2B false 19 name=false:=by simp [c2B]
 have h3:c3B 19 name kids.len=false:=by simp [c3B,gt3_not]
 have h4:=c4ff name arg
 have h5:c5B 19 5=false:=by simp [c5B]
 have h6:c6B 19 lit = !decide (lit.length=0):=by simp only[c6B,pos_not];simp
 have h7:armsB 19 alts.len=decide (alts.len=0):=by simp [armsB]
 unfold okN formR spN;simp only[hs,form19_5,Option.getD_some,Option.isSome_some,fit4,Bool.true_and];rw[hi,h2,h3,h4,h5,h6,h7]
 cases hA:decide (alts.len=0) with
 | true =>
  have hb2:=hb (by simpa using hA);rw[hb2];generalize decide (name.length=0)=x0;generalize decide (arg.length=0)=x1;generalize decide (lit.length=0)=x2;generalize decide (kids.len=2)=x3
  cases x0 <;> cases x1 <;> cases x2 <;> cases x3 <;> rfl
 | false=>simp
theorem okK19_6 (name arg lit:List Int) (kids alts:GE):okN ⟨19,6,name,arg,lit⟩ kids alts=(spN ⟨19,6,name,arg,lit⟩ kids.len alts.len && !badA alts):=by
 have hs:shapeV 19 6 kids.len=(1,false,false):=rfl;have hb:alts.len=0→badA alts=false:=badA_len;have hi:decide ((1:Int)=(kids.len:Int))=decide (kids.len=1):=int_dec 1 kids.len
 have h2:c2B false 19 name=false:=by simp [c2B]
 have h3:c3B 19 name kids.len=false:=by simp [c3B,gt3_not]
 have h4:=c4ff name arg
 have h5:c5B 19 6=false:=by simp [c5B]
 have h6:c6B 19 lit = !decide (lit.length=0):=by simp only[c6B,pos_not];simp
 have h7:armsB 19 alts.len=decide (alts.len=0):=by simp [armsB]
 unfold okN formR spN;simp only[hs,form19_6,Option.getD_some,Option.isSome_some,fit3,Bool.true_and];rw[hi,h2,h3,h4,h5,h6,h7]
 cases hA:decide (alts.len=0) with
 | true =>
  have hb2:=hb (by simpa using hA);rw[hb2];generalize decide (name.length=0)=x0;generalize decide (arg.length=0)=x1;generalize decide (lit.length=0)=x2;generalize decide (kids.len=1)=x3
  cases x0 <;> cases x1 <;> cases x2 <;> cases x3 <;> rfl
 | false=>simp
theorem okK20_0 (name arg lit:List Int) (kids alts:GE):okN ⟨20,0,name,arg,lit⟩ kids alts=(spN ⟨20,0,name,arg,lit⟩ kids.len alts.len && !badA alts):=by
 have hs:shapeV 20 0 kids.len=(1,false,false):=rfl;have hb:alts.len=0→badA alts=false:=badA_len;have hi:decide ((1:Int)=(kids.len:Int))=decide (kids.len=1):=int_dec 1 kids.len
 have h2:c2B false 20 name=false:=by simp [c2B]
 have h3:c3B 20 name kids.len=false:=by simp [c3B,gt3_not]
 have h4:=c4ff name arg
 have h5:c5B 20 0=false:=by simp [c5B]
 have h6:c6B 20 lit = !decide (lit.length=0):=by simp only[c6B,pos_not];simp
 have h7:armsB 20 alts.len=decide (alts.len=0):=by simp [armsB]
 unfold okN formR spN;simp only[hs,form20_0,Option.getD_some,Option.isSome_some,fit3,Bool.true_and];rw[hi,h2,h3,h4,h5,h6,h7]
 cases hA:decide (alts.len=0) with
 | true =>
  have hb2:=hb (by simpa using hA);rw[hb2];generalize decide (name.length=0)=x0;generalize decide (arg.length=0)=x1;generalize decide (lit.length=0)=x2;generalize decide (kids.len=1)=x3
  cases x0 <;> cases x1 <;> cases x2 <;> cases x3 <;> rfl
 | false=>simp
theorem okK20_1 (name arg lit:List Int) (kids alts:GE):okN ⟨20,1,name,arg,lit⟩ kids alts=(spN ⟨20,1,name,arg,lit⟩ kids.len alts.len && !badA alts):=by
 have hs:shapeV 20 1 kids.len=(0,false,false):=rfl;have hb:alts.len=0→badA alts=false:=badA_len;have hi:decide ((0:Int)=(kids.len:Int))=decide (kids.len=0):=int_dec 0 kids.len
 have h2:c2B false 20 name=false:=by simp [c2B]
 have h3:c3B 20 name kids.len=false:=by simp [c3B,gt3_not]
 have h4:=c4ff name arg
 have h5:c5B 20 1=false:=by simp [c5B]
 have h6:c6B 20 lit = !decide (lit.length=0):=by simp only[c6B,pos_not];simp
 have h7:armsB 20 alts.len=decide (alts.len=0):=by simp [armsB]
 unfold okN formR spN;simp only[hs,form20_1,Option.getD_some,Option.isSome_some,fit0,Bool.true_and];rw[hi,h2,h3,h4,h5,h6,h7]
 cases hA:decide (alts.len=0) with
 | true =>
  have hb2:=hb (by simpa using hA);rw[hb2];generalize decide (name.length=0)=x0;generalize decide (arg.length=0)=x1;generalize decide (lit.length=0)=x2;generalize decide (kids.len=0)=x3
  cases x0 <;> cases x1 <;> cases x2 <;> cases x3 <;> rfl
 | false=>simp
theorem okK20_2 (name arg lit:List Int) (kids alts:GE):okN ⟨20,2,name,arg,lit⟩ kids alts=(spN ⟨20,2,name,arg,lit⟩ kids.len alts.len && !badA alts):=by
 have hs:shapeV 20 2 kids.len=(1,false,false):=rfl;have hb:alts.len=0→badA alts=false:=badA_len;have hi:decide ((1:Int)=(kids.len:Int))=decide (kids.len=1):=int_dec 1 kids.len
 have h2:c2B false 20 name=false:=by simp [c2B]
 have h3:c3B 20 name kids.len=false:=by simp [c3B,gt3_not]
 have h4:=c4ff name arg
 have h5:c5B 20 2=false:=by simp [c5B]
 have h6:c6B 20 lit = !decide (lit.length=0):=by simp only[c6B,pos_not];simp
 have h7:armsB 20 alts.len=decide (alts.len=0):=by simp [armsB]
 unfold okN formR spN;simp only[hs,form20_2,Option.getD_some,Option.isSome_some,fit3,Bool.true_and];rw[hi,h2,h3,h4,h5,h6,h7]
 cases hA:decide (alts.len=0) with
 | true =>
  have hb2:=hb (by simpa using hA);rw[hb2];generalize decide (name.length=0)=x0;generalize decide (arg.length=0)=x1;generalize decide (lit.length=0)=x2;generalize decide (kids.len=1)=x3
  cases x0 <;> cases x1 <;> cases x2 <;> cases x3 <;> rfl
 | false=>simp
theorem okK20_3 (name arg lit:List Int) (kids alts:GE):okN ⟨20,3,name,arg,lit⟩ kids alts=(spN ⟨20,3,name,arg,lit⟩ kids.len alts.len && !badA alts):=by
 have hs:shapeV 20 3 kids.len=(1,false,false):=rfl;have hb:alts.len=0→badA alts=false:=badA_len;have hi:decide ((1:Int)=(kids.len:Int))=decide (kids.len=1):=int_dec 1 kids.len
 have h2:c2B false 20 name=false:=by simp [c2B]
 have h3:c3B 20 name kids.len=false:=by simp [c3B,gt3_not]
 have h4:=c4ff name arg
 have h5:c5B 20 3=false:=by simp [c5B]
 have h6:c6B 20 lit = !decide (lit.length=0):=by simp only[c6B,pos_not];simp
 have h7:armsB 20 alts.len=decide (alts.len=0):=by simp [armsB]
 unfold okN formR spN;simp only[hs,form20_3,Option.getD_some,Option.isSome_some,fit3,Bool.true_and];rw[hi,h2,h3,h4,h5,h6,h7]
 cases hA:decide (alts.len=0) with
 | true =>
  have hb2:=hb (by simpa using hA);rw[hb2];generalize decide (name.length=0)=x0;generalize decide (arg.length=0)=x1;generalize decide (lit.length=0)=x2;generalize decide (kids.len=1)=x3
  cases x0 <;> cases x1 <;> cases x2 <;> cases x3 <;> rfl
 | false=>simp
theorem okK20_4 (name arg lit:List Int) (kids alts:GE):okN ⟨20,4,name,arg,lit⟩ kids alts=(spN ⟨20,4,name,arg,lit⟩ kids.len alts.len && !badA alts):=by
 have hs:shapeV 20 4 kids.len=(2,false,false):=rfl;have hb:alts.len=0→badA alts=false:=badA_len;have hi:decide ((2:Int)=(kids.len:Int))=decide (kids.len=2):=int_dec 2 kids.len
 have h2:c2B false 20 name=false:=by simp [c2B]
 have h3:c3B 20 name kids.len=false:=by simp [c3B,gt3_not]
 have h4:=c4ff name arg
 have h5:c5B 20 4=false:=by simp [c5B]
 have h6:c6B 20 lit = !decide (lit.length=0):=by simp only[c6B,pos_not];simp
 have h7:armsB 20 alts.len=decide (alts.len=0):=by simp [armsB]
 unfold okN formR spN;simp only[hs,form20_4,Option.getD_some,Option.isSome_some,fit4,Bool.true_and];rw[hi,h2,h3,h4,h5,h6,h7]
 cases hA:decide (alts.len=0) with
 | true =>
  have hb2:=hb (by simpa using hA);rw[hb2];generalize decide (name.length=0)=x0;generalize decide (arg.length=0)=x1;generalize decide (lit.length=0)=x2;generalize decide (kids.len=2)=x3
  cases x0 <;> cases x1 <;> cases x2 <;> cases x3 <;> rfl
 | false=>simp
theorem sp_n {k n:Int} {name arg lit:List Int} {nk na:Nat} (h1:k≠1) (h19:k≠19) (h20:k≠20) (h0:n≠0):spN ⟨k,n,name,arg,lit⟩ nk na=false:=by
 have h5:c5B k n=true:=by simp [c5B,h1,h19,h20,h0]
 unfold spN;simp [h5]
theorem sp_s {k n:Int} {name arg lit:List Int} {nk na:Nat} (h:(shapeV k n nk).1 = -1):spN ⟨k,n,name,arg,lit⟩ nk na=false:=by
 unfold spN;simp only[h]
 have:decide ((-1:Int)=(nk:Int))=false:=by simp
 simp [this]
theorem ok_no {k n:Int} {name arg lit:List Int} {kids alts:GE} (h:formV k n=none):okN ⟨k,n,name,arg,lit⟩ kids alts=false:=by
 unfold okN;simp [h]
theorem okN_eq (p:PE) (kids alts:GE):okN p kids alts=(spN p kids.len alts.len && !badA alts):=by
 obtain ⟨k,n,name,arg,lit⟩:=p;by_cases h0:k=0
 ·
  subst h0;by_cases hn:n=0
  ·
   subst hn;exact okK0 name arg lit kids alts
  ·
   rw[ok_no (form0_no n hn),sp_n (by decide) (by decide) (by decide) hn];rfl
 by_cases h1:k=1
 ·
  subst h1;exact okK1 n name arg lit kids alts
 by_cases h2:k=2
 ·
  subst h2;by_cases hn:n=0
  ·
   subst hn;exact okK2 name arg lit kids alts
  ·
   rw[ok_no (form2_no n hn),sp_n (by decide) (by decide) (by decide) hn];rfl
 by_cases h3:k=3
 ·
  subst h3;by_cases hn:n=0
  ·
   subst hn;exact okK3 name arg lit kids alts
  ·
   rw[ok_no (form3_no n hn),sp_n (by decide) (by decide) (by decide) hn];rfl
 by_cases h4:k=4
 ·
  subst h4;by_cases hn:n=0
  ·
   subst hn;exact okK4 name arg lit kids alts
  ·
   rw[ok_no (form4_no n hn),sp_n (by decide) (by decide) (by decide) hn];rfl
 by_cases h5:k=5
 ·
  subst h5;by_cases hn:n=0
  ·
   subst hn;exact okK5 name arg lit kids alts
  ·
   rw[ok_no (form5_no n hn),sp_n (by decide) (by decide) (by decide) hn];rfl
 by_cases h6:k=6
 ·
  subst h6;by_cases hn:n=0
  ·
   subst hn;exact okK6 name arg lit kids alts
  ·
   rw[ok_no (form6_no n hn),sp_n (by decide) (by decide) (by decide) hn];rfl
 by_cases h7:k=7
 ·
  subst h7;by_cases hn:n=0
  ·
   subst hn;exact okK7 name arg lit kids alts
  ·
   rw[ok_no (form7_no n hn),sp_n (by decide) (by decide) (by decide) hn];rfl
 by_cases h8:k=8
 ·
  subst h8;by_cases hn:n=0
  ·
   subst hn;exact okK8 name arg lit kids alts
  ·
   rw[ok_no (form8_no n hn),sp_n (by decide) (by decide) (by decide) hn];rfl
 by_cases h9:k=9
 ·
  subst h9;by_cases hn:n=0
  ·
   subst hn;exact okK9 name arg lit kids alts
  ·
   rw[ok_no (form9_no n hn),sp_n (by decide) (by decide) (by decide) hn];rfl
 by_cases h10:k=10
 ·
  subst h10;by_cases hn:n=0
  ·
   subst hn;exact okK10 name arg lit kids alts
  ·
   rw[ok_no (form10_no n hn),sp_n (by decide) (by decide) (by decide) hn];rfl
 by_cases h11:k=11
 ·
  subst h11;by_cases hn:n=0
  ·
   subst hn;exact okK11 name arg lit kids alts
  ·
   rw[ok_no (form11_no n hn),sp_n (by decide) (by decide) (by decide) hn];rfl
 by_cases h12:k=12
 ·
  subst h12;by_cases hn:n=0
  ·
   subst hn;exact okK12 name arg lit kids alts
  ·
   rw[ok_no (form12_no n hn),sp_n (by decide) (by decide) (by decide) hn];rfl
 by_cases h13:k=13
 ·
  subst h13;by_cases hn:n=0
  ·
   subst hn;exact okK13 name arg lit kids alts
  ·
   rw[ok_no (form13_no n hn),sp_n (by decide) (by decide) (by decide) hn];rfl
 by_cases h14:k=14
 ·
  subst h14;by_cases hn:n=0
  ·
   subst hn;exact okK14 name arg lit kids alts
  ·
   rw[ok_no (form14_no n hn),sp_n (by decide) (by decide) (by decide) hn];rfl
 by_cases h15:k=15
 ·
  subst h15;by_cases hn:n=0
  ·
   subst hn;exact okK15 name arg lit kids alts
  ·
   rw[ok_no (form15_no n hn),sp_n (by decide) (by decide) (by decide) hn];rfl
 by_cases h16:k=16
 ·
  subst h16;by_cases hn:n=0
  ·
   subst hn;exact okK16 name arg lit kids alts
  ·
   rw[ok_no (form16_no n hn),sp_n (by decide) (by decide) (by decide) hn];rfl
 by_cases h17:k=17
 ·
  subst h17;by_cases hn:n=0
  ·
   subst hn;exact okK17 name arg lit kids alts
  ·
   rw[ok_no (form17_no n hn),sp_n (by decide) (by decide) (by decide) hn];rfl
 by_cases h18:k=18
 ·
  subst h18;by_cases hn:n=0
  ·
   subst hn;exact okK18 name arg lit kids alts
  ·
   rw[ok_no (form18_no n hn),sp_n (by decide) (by decide) (by decide) hn];rfl
 by_cases h19:k=19
 ·
  subst h19;by_cases n0:n=0
  ·
   subst n0;exact okK19_0 name arg lit kids alts
  by_cases n1:n=1
  ·
   subst n1;exact okK19_1 name arg lit kids alts
  by_cases n2:n=2
  ·
   subst n2;exact okK19_2 name arg lit kids alts
  by_cases n3:n=3
  ·
   subst n3;exact okK19_3 name arg lit kids alts
  by_cases n4:n=4
  ·
   subst n4;exact okK19_4 name arg lit kids alts
  by_cases n5:n=5
  ·
   subst n5;exact okK19_5 name arg lit kids alts
  by_cases n6:n=6
  ·
   subst n6;exact okK19_6 name arg lit kids alts
  have e:(shapeV 19 n kids.len).1 = -1:=by
   by_cases hz:n < 0
   ·
    simp [shapeV,hz]
   ·
    simp [shapeV,hz,show 6 < n by omega]
  rw[ok_no (form19_no n n0 n1 n2 n3 n4 n5 n6),sp_s e];rfl
 by_cases h20:k=20
 ·
  subst h20;by_cases n0:n=0
  ·
   subst n0;exact okK20_0 name arg lit kids alts
  by_cases n1:n=1
  ·
   subst n1;exact okK20_1 name arg lit kids alts
  by_cases n2:n=2
  ·
   subst n2;exact okK20_2 name arg lit kids alts
  by_cases n3:n=3
  ·
   subst n3;exact okK20_3 name arg lit kids alts
  by_cases n4:n=4
  ·
   subst n4;exact okK20_4 name arg lit kids alts
  rw[ok_no (form20_no n n0 n1 n2 n3 n4),sp_s (by simp [shapeV,n0,n1,n2,n3,n4])];rfl
 rw[ok_no (formX k n h0 h1 h2 h3 h4 h5 h6 h7 h8 h9 h10 h11 h12 h13 h14 h15 h16 h17 h18 h19 h20),sp_s (by simp [shapeV,h0,h1,h2,h3,h4,h5,h6,h7,h8,h9,h10,h11,h12,h13,h14,h15,h16,h17,h18,h19,h20])];rfl
theorem okG_sp:∀ (g:GE) (d:Nat),okG g d=spG false g d∧(okG g d && !badA g)=spG true g d
 | .nil,d=>⟨rfl,rfl⟩
 | .cons hc hv p kids alts rest,d=>by
  obtain ⟨k1,-⟩:=okG_sp kids (d - 1);obtain ⟨-,a2⟩:=okG_sp alts (d - 1);obtain ⟨r1,r2⟩:=okG_sp rest d;simp only[okG,spG,badA,okN_eq,k1,← a2,← r2,r1];generalize decide (0 < d)=x0;generalize spN p kids.len alts.len=x1;generalize spG false kids (d - 1)=x2;generalize okG alts (d - 1)=x3;generalize badA alts=x4;generalize spG false rest d=x5;generalize badA rest=x6;generalize armV hc hv=x7;refine ⟨?_,?_⟩
  ·
   cases x0 <;> cases x1 <;> cases x2 <;> cases x3 <;> cases x4 <;> cases x5 <;> rfl
  ·
   cases x0 <;> cases x1 <;> cases x2 <;> cases x3 <;> cases x4 <;> cases x5 <;> cases x6 <;> cases x7 <;> rfl
theorem okE_sp (p:PE) (kids alts:GE) (d:Nat):okE p kids alts d=spE p kids alts d:=by
 unfold okE spE;rw[okN_eq,(okG_sp kids (d - 1)).1,← (okG_sp alts (d - 1)).2];generalize decide (0 < d)=x0;generalize spN p kids.len alts.len=x1;generalize spG false kids (d - 1)=x2;generalize okG alts (d - 1)=x3;generalize badA alts=x4
 cases x0 <;> cases x1 <;> cases x2 <;> cases x3 <;> cases x4 <;> rfl
end Go.Proofs.YtblbnillilbacaaGreatDoor.By
