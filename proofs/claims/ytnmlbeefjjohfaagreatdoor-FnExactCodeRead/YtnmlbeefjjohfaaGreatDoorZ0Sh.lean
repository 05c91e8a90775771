/-
  Short names for long ones. No statement is proved here.
-/
import Derived.Deep.RegionHeld
import Derived.OwnWalk
import Derived.OneCell
namespace Go.Proofs.YtnmlbeefjjohfaaGreatDoor.By
theorem nA {α : Type _} (l : List α) (i : Nat) (a : α) : l.toArray.setIfInBounds i a = (l.set i a).toArray := List.setIfInBounds_toArray l i a
theorem nB {α : Type _} (x y : α) (l : List α) : (x :: l).set 0 y = y :: l := rfl
theorem nC {α : Type _} (x y : α) (l : List α) (n : Nat) : (x :: l).set (n + 1) y = x :: l.set n y := rfl
theorem nD {α : Type _} (l : List α) (i : Nat) (h : i < l.toArray.size) : l.toArray[i] = l[i]'(by simpa using h) := rfl
theorem nE {α : Type _} (x : α) (l : List α) (i : Nat) (h : i + 1 < (x :: l).length) : (x :: l)[i + 1] = l[i]'(Nat.lt_of_succ_lt_succ h) := rfl
theorem nF {α : Type _} (x : α) (l : List α) (h : 0 < (x :: l).length) : (x :: l)[0] = x := rfl
section
variable {P : Program} {ops : Array Oper} {Q : Exit → Act → World → Prop} {md : Region.Mode} {S : World → Prop}
theorem tk (i : Nat) {v : Value} {oi : Oper} {fuel : Nat} {listed l' : Array Bool} {a a' : Act} {w : World} (h : wpAnyH P md ops Q S fuel l' a' w) (hi : ops[i]? = some oi := by exact rfl) (hS : S w := by assumption)
    (hy : ∀ w, S w → (execOp a.eval oi).run P w = .ok (.value v) w := by intro v hS; (try simp only [and_assoc] at hS); (repeat (rcases hS with ⟨hT, hS⟩; (repeat (rcases hT with ⟨_, hT⟩)))); go_simp; try with_reducible rfl)
    (ha : a.put oi.dst v = a' := by (try simp only [Act.put, nA, nB, nC, nD, nE, nF]); rfl) (hl : listed.setIfInBounds i true = l' := by (try simp only [Act.put, nA, nB, nC, nD, nE, nF]); rfl)
    (hb : (Region.noSelect ops && (Region.free md ops listed i && (Region.ready md ops listed).contains i)) = true := by kernel_rfl)
    (hQ : ∀ c a w, Q (.panic c) (a.put oi.dst v) w → Q (.panic c) a w := by exact fun _ _ _ h => h) (hw : Region.wanted oi (yielded ops a.tmps) = true := by rfl) : wpAnyH P md ops Q S (fuel + 1) listed a w := by
  subst ha hl;simp only [Bool.and_eq_true] at hb;exact wpAnyH_take hi hb.1 hb.2.1 hb.2.2 hQ (Or.inl ⟨hw, hy⟩) hS h
theorem tks (i : Nat) {oi : Oper} {fuel : Nat} {listed l' : Array Bool} {a a' : Act} {w : World} (h : wpAnyH P md ops Q S fuel l' a' w) (hi : ops[i]? = some oi := by exact rfl) (hS : S w := by assumption)
    (ha : a.put oi.dst undef = a' := by (try simp only [Act.put, nA, nB, nC, nD, nE, nF]); rfl) (hl : listed.setIfInBounds i true = l' := by (try simp only [Act.put, nA, nB, nC, nD, nE, nF]); rfl)
    (hb : (Region.noSelect ops && (Region.free md ops listed i && (Region.ready md ops listed).contains i)) = true := by kernel_rfl)
    (hQ : ∀ c a w, Q (.panic c) (a.put oi.dst undef) w → Q (.panic c) a w := by exact fun _ _ _ h => h) (hw : Region.wanted oi (yielded ops a.tmps) = false := by rfl) : wpAnyH P md ops Q S (fuel + 1) listed a w := by
  subst ha hl;simp only [Bool.and_eq_true] at hb;exact wpAnyH_take hi hb.1 hb.2.1 hb.2.2 hQ (Or.inr ⟨hw, rfl⟩) hS h
theorem tq (i : Nat) {v : Value} {oi : Oper} {fuel : Nat} {listed l' : Array Bool} {a a' : Act} {w : World} (hq : ∀ c (a : Act) d v w', Q (.panic c) (a.put d v) w' → Q (.panic c) a w') (h : wpAnyH P md ops Q S fuel l' a' w) (hi : ops[i]? = some oi := by exact rfl) (hS : S w := by assumption)
    (hy : ∀ w, S w → (execOp a.eval oi).run P w = .ok (.value v) w := by intro v hS; (try simp only [and_assoc] at hS); (repeat (rcases hS with ⟨hT, hS⟩; (repeat (rcases hT with ⟨_, hT⟩)))); go_simp; try with_reducible rfl)
    (ha : a.put oi.dst v = a' := by (try simp only [Act.put, nA, nB, nC, nD, nE, nF]); rfl) (hl : listed.setIfInBounds i true = l' := by (try simp only [Act.put, nA, nB, nC, nD, nE, nF]); rfl)
    (hb : (Region.noSelect ops && (Region.free md ops listed i && (Region.ready md ops listed).contains i)) = true := by kernel_rfl)
    (hw : Region.wanted oi (yielded ops a.tmps) = true := by rfl) : wpAnyH P md ops Q S (fuel + 1) listed a w := by
  subst ha hl;simp only [Bool.and_eq_true] at hb;exact wpAnyH_take hi hb.1 hb.2.1 hb.2.2 (fun _ _ _ k => hq _ _ _ _ _ k) (Or.inl ⟨hw, hy⟩) hS h
theorem tqs (i : Nat) {oi : Oper} {fuel : Nat} {listed l' : Array Bool} {a a' : Act} {w : World} (hq : ∀ c (a : Act) d v w', Q (.panic c) (a.put d v) w' → Q (.panic c) a w') (h : wpAnyH P md ops Q S fuel l' a' w) (hi : ops[i]? = some oi := by exact rfl) (hS : S w := by assumption)
    (ha : a.put oi.dst undef = a' := by (try simp only [Act.put, nA, nB, nC, nD, nE, nF]); rfl) (hl : listed.setIfInBounds i true = l' := by (try simp only [Act.put, nA, nB, nC, nD, nE, nF]); rfl)
    (hb : (Region.noSelect ops && (Region.free md ops listed i && (Region.ready md ops listed).contains i)) = true := by kernel_rfl)
    (hw : Region.wanted oi (yielded ops a.tmps) = false := by rfl) : wpAnyH P md ops Q S (fuel + 1) listed a w := by
  subst ha hl;simp only [Bool.and_eq_true] at hb;exact wpAnyH_take hi hb.1 hb.2.1 hb.2.2 (fun _ _ _ k => hq _ _ _ _ _ k) (Or.inr ⟨hw, rfl⟩) hS h
theorem rd (i : Nat) {o : Oper} {fuel : Nat} {listed : Array Bool} {a : Act} {w : World} (ho : ops[i]? = some o)
    (h : ∀ K' : Act → World → Prop, Shut (∀ a w, S w → (S w → wpAnyH P md ops Q S fuel (listed.setIfInBounds i true) a w) → K' a w) → if Region.wanted o (yielded ops a.tmps) = true then Oper.wp P o a w K' Q else K' (a.put o.dst undef) w)
    (hr : Region.ready md ops listed = [i] := by kernel_rfl) : wpAnyH P md ops Q S (fuel + 1) listed a w :=
  wpAnyH_ready hr (by simp) (AllReadyH.cons ho h AllReadyH.nil)
end
theorem lA {α:Type _} {a b:List α}:(a++b).length=a.length+b.length:=List.length_append
theorem lB {α:Type _} {x:α} {a:List α}:(x::a).length=a.length+1:=List.length_cons
theorem lC {α:Type _}:([]:List α).length=0:=rfl
theorem lbk {w:World} {b:Nat} {o:Obj} (h:w.heap[b]? = some o):b < w.heap.size:=lt_of_block h
theorem hnw (w:World) (o:Obj):(w.alloc o).heap[w.heap.size]? = some o:=heap_alloc_new w o
theorem hsm (w:World) (g i:Nat) (cs:Array Value) (t:TypeId) (v:Value) (hg:w.heap[g]? = some (.cells cs t (0, 0))):(w.setCell ⟨g, i, none⟩ v).heap[g]? = some (.cells (cs.setIfInBounds i v) t (0, 0)):=heap_setCell_same w g i cs t v hg
theorem lz0 {α:Type _} {l:List α} (h:l.length=0):l=[]:=List.eq_nil_of_length_eq_zero h
theorem lD9 {α:Type _} (a b c:List α):(a++b)++c=a++(b++c):=List.append_assoc a b c
theorem bA9 (a b:Bool):((a&&b)=true)=(a=true∧b=true):=Bool.and_eq_true a b
theorem dE9 {p:Prop} [Decidable p]:(decide p=true)=p:=decide_eq_true_eq
theorem sA9 {α:Type _} {l:List α}:l.toArray.size=l.length:=List.size_toArray
theorem gal (w:World) (o:Obj) (r:Option Nat):w.grownBy (w.alloc o) r:=World.grownBy_alloc w o r
theorem grf (w:World) (r:Option Nat):w.grownBy w r:=World.grownBy.refl w r
end Go.Proofs.YtnmlbeefjjohfaaGreatDoor.By
