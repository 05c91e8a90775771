/-
  No statement is proved here.
-/
import Derived.Test.YtblbnillilbacaaGreatDoorMAAlsoa
import Derived.Test.YtblbnillilbacaaGreatDoorNLa
namespace Go.Proofs.YtblbnillilbacaaGreatDoor.By
open Go.RowKit
set_option linter.unusedVariables false
set_option linter.unusedSimpArgs false
set_option maxRecDepth 20000
def opsB:List (List Int):=[[97,100,100],[115,117,98],[109,117,108],[108,101,115,115],[115,97,109,101],[99,97,116],[108,101,110]]
def capsB:List (List Int):=[[112,114,105,110,116],[116,105,99,107],[100,114,97,119],[103,101,116],[112,117,116]]
def kindsB:List (List Int):=[[117,110,105,116],[],[],[],[102,110],[],[108,101,116],[114,101,99],[105,102],[112,97,105,114],[102,115,116],[115,110,100],[114,101,102],[114,101,97,100],[119,114,105,116,101],[],[109,97,116,99,104],[114,97,105,115,101],[116,114,121]]
def headB (k n:Int):List Int:=if k=19 then opsB.getD n.toNat [] else if k=20 then capsB.getD n.toNat [] else kindsB.getD k.toNat []
def nmB (zs:List Int):List Int:=if zs.length=0 then [] else 32::zs
def saY (p:PE) (ks rs:List (List Int)):List Int :=
 if p.k=0 then [117,110,105,116] else if p.k=1 then intB p.n else if p.k=2 then [34]++p.lit++[34] else if p.k=3 then p.name
 else if p.k=5 then [40]++ks.getD 0 []++[32]++ks.getD 1 []++[41]
 else if p.k=18 then [40,116,114,121,32]++ks.getD 0 []++[32]++p.name++[32]++ks.getD 1 []++[41]
 else if p.k=15 then (if ks.length=0 then p.name else [40]++p.name++blz ks++blz rs++[41])
 else if p.k=20∧ks.length=0 then headB p.k p.n
 else [40]++headB p.k p.n++nmB p.name++nmB p.arg++blz ks++blz rs++[41]
def armX (hc:List Int) (hv:List (List Int)) (b:List Int):List Int:=[40]++(if hc.length=0 then [95] else hc)++blz hv++[32]++b++[41]
def mayArm:Bool→List Int→List (List Int)→List Int→List Int
 | false,_,_,b=>b
 | true,hc,hv,b=>armX hc hv b
def exL:Bool→GE→List (List Int)
 | _,.nil=>[]
 | al,.cons hc hv p k a r=>mayArm al hc hv (saY p (exL false k) (exL true a))::exL al r
theorem exL_len (al:Bool):∀ g:GE,(exL al g).length=g.len
 | .nil=>rfl
 | .cons hc hv p k a r=>by simp [exL,GE.len,exL_len al r]
def itB (p:PE) (ks rs:List (List Int)) (j:Nat) (c:Int):List (List Int) :=
 if c=105 then [intB p.n] else if c=116 then [[34]++p.lit++[34]] else if c=110 then [p.name] else if c=103 then [p.name] else if c=97 then [p.arg] else if c=107 then [ks.getD j []] else if c=102 then ks else if c=109 then rs else []
def nxB (c:Int) (j:Nat):Nat:=if c=107 then j+1 else j
def itsB (p:PE) (ks rs:List (List Int)):List Int→Nat→List (List Int)
 | [],_=>[]
 | c::r,j=>itB p ks rs j c++itsB p ks rs r (nxB c j)
def wdB (wd:List Int):List (List Int):=if wd.length=0 then [] else [wd]
def inB2 (wd s:List Int) (p:PE) (ks rs:List (List Int)):List (List Int):=wdB wd++itsB p ks rs s 0
def noX (wd s:List Int) (p:PE) (ks rs:List (List Int)):List Int:=if ks.length=0 then joinZ (inB2 wd s p ks rs) else [40]++joinZ (inB2 wd s p ks rs)++[41]
theorem two_of {ks:List (List Int)} (h:ks.length=2):∃ a b,ks=[a,b]:=by
 match ks,h with
 | [a,b],_=>exact ⟨a,b,rfl⟩
theorem one_of {ks:List (List Int)} (h:ks.length=1):∃ a,ks=[a]:=by
 match ks,h with
 | [a],_=>exact ⟨a,rfl⟩
theorem three_of {ks:List (List Int)} (h:ks.length=3):∃ a b c,ks=[a,b,c]:=by
 match ks,h with
 | [a,b,c],_=>exact ⟨a,b,c,rfl⟩
theorem nil_of0 {α:Type} {ks:List α} (h:ks.length=0):ks=[]:=List.eq_nil_of_length_eq_zero h
def frmW (k n:Int):List Int:=ofB (formR k n).1.data.toList
def frmS (k n:Int):List Int:=ofB (formR k n).2.2.2.data.toList
theorem okN_form {p:PE} {kids alts:GE} (h:okN p kids alts=true):∃ f,formV p.k p.n=some f∧fitV f.2.2.2 p kids alts=true∧formR p.k p.n=f:=by
 unfold okN at h;simp only[Bool.and_eq_true] at h
 cases hf:formV p.k p.n with
 | none=>rw[hf] at h;simp at h
 | some f =>
  have e:formR p.k p.n=f:=by unfold formR;rw[hf];rfl
  rw[e] at h;exact ⟨f,rfl,h.2,e⟩
theorem form_mem {k n:Int} {f:Frm} (h:formV k n=some f):f ∈ formsL∧f.2.1=k∧(f.2.2.1=n∨hasB f.2.2.2 105=true):=by
 unfold formV at h;have h1:=List.mem_of_find?_eq_some h;have h2:=List.find?_some h;unfold hitF at h2;simp only[Bool.and_eq_true,Bool.or_eq_true,decide_eq_true_eq] at h2;exact ⟨h1,h2⟩
end Go.Proofs.YtblbnillilbacaaGreatDoor.By
