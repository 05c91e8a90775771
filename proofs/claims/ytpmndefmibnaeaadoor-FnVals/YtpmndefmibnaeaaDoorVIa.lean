/-
  What is shown by now: a box of one cell that names a row of bytes of our own. No statement is proved here.
-/
import Derived.Test.YtpmndefmibnaeaaDoorVSh
namespace Go.Proofs.YtpmndefmibnaeaaDoor.By
open Go.RowKit
set_option linter.unusedVariables false
set_option linter.unusedSimpArgs false

/-- Blocks below B have not turned, nor any that is no row of bytes, but q. -/
structure FrP (B q : Nat) (w u : World) : Prop where
  below : Below B w u
  other : ∀ (i : Nat) (o : Obj), w.heap[i]? = some o → (∀ cur fr, o ≠ .cells cur 5 fr) → i ≠ q → u.heap[i]? = some o
theorem FrP.refl (B q : Nat) (w : World) : FrP B q w w := ⟨Below.refl _ _, fun _ _ h _ _ => h⟩
theorem FrP.trans {B q : Nat} {a b c : World} (h : FrP B q a b) (k : FrP B q b c) : FrP B q a c := ⟨h.below.trans k.below, fun i o hi ho hq => k.other i o (h.other i o hi ho hq) ho hq⟩
theorem FrP.grown {B q : Nat} {w u : World} (h : w.grownBy u none) (hB : B ≤ w.heap.size) : FrP B q w u :=
  ⟨(Below.refl B w).grown h hB (fun k hk => by cases hk), fun i o hi _ _ => (h.block i (lt_of_block hi) (by simp)).trans hi⟩
theorem FrP.cells {B q : Nat} {w u : World} (h : FrP B q w u) {i : Nat} {cs : Array Value} {t : TypeId} {fr : Nat × Nat} (hi : w.heap[i]? = some (.cells cs t fr)) (ht : t ≠ 5) (hq : i ≠ q) : u.heap[i]? = some (.cells cs t fr) :=
  h.other i _ hi (fun cur f e => by injection e with _ e2; exact ht e2) hq
theorem FrP.iter {B q : Nat} {w u : World} (h : FrP B q w u) {i : Nat} {s : ByteArray} {p : Nat} (hi : w.heap[i]? = some (.stringIter s p)) (hq : i ≠ q) : u.heap[i]? = some (.stringIter s p) :=
  h.other i _ hi (fun cur f e => by cases e) hq
theorem results_noneK {P : Program} {fn : Func} (h : fn.results = #[]) (tmps : Array Value) (w : World) : (results fn tmps).run P w = .ok (.tuple #[]) w := by simp [results, h]
/-- The box, and what is shown by now. -/
structure WrO (B q : Nat) (w : World) (v : Value) (zs : List Int) : Prop where
  box : w.heap[q]? = some (.cells #[v] 59 (0, 0))
  own : w.ownsRow B 5 1 v zs.length (vals zs)
  bq : B ≤ q
  size : B ≤ w.heap.size
theorem WrO.grown {B q : Nat} {w u : World} {v : Value} {zs : List Int} (h : WrO B q w v zs) (k : w.grownBy u none) : WrO B q u v zs :=
  ⟨(k.block _ (lt_of_block h.box) (by simp)).trans h.box, h.own.kept k (Classical.em _), h.bq, Nat.le_trans h.size k.size⟩
theorem one_cell {w : World} {q : Nat} {v0 : Value} {t : TypeId} (h : w.heap[q]? = some (.cells #[v0] t (0, 0))) : w.cell? ⟨q, 0, none⟩ = some v0 ∧ w.frozen? ⟨q, 0, none⟩ = false :=
  ⟨by rw [cell_of_row w q 0 _ _ (0, 0) h]; rfl, frozen_of_row w q _ _ _ h⟩
theorem WrO.as {B q : Nat} {w : World} {v : Value} {zs ys : List Int} (h : WrO B q w v zs) (e : zs = ys) : WrO B q w v ys := e ▸ h
theorem WrO.far {B q n : Nat} {w : World} {v v0 : Value} {zs : List Int} (o : w.ownsRow B 5 1 v n (vals zs)) (bx : w.heap[q]? = some (.cells #[v0] 59 (0, 0))) : v.ownBlock ≠ some q := by
  intro e
  rcases o.2 with ⟨rfl, _⟩ | ⟨g, cap, cur, rfl, _, hg, _⟩
  · cases e
  · injection e with e
    subst e
    rw [bx] at hg
    injection hg with hg
    injection hg with _ h2
    exact absurd h2 (by decide)
/-- What an append and the store behind it leave. -/
theorem WrO.next {B q : Nat} {w u : World} {v v' : Value} {zs ys : List Int} (h : WrO B q w v zs) (o : u.ownsRow B 5 1 v' (zs.length + ys.length) (vals (zs ++ ys))) (g : w.grownBy u v.ownBlock) :
    u.heap[q]? = some (.cells #[v] 59 (0, 0)) ∧ WrO B q (u.setCell ⟨q, 0, none⟩ v') v' (zs ++ ys) ∧ FrP B q w (u.setCell ⟨q, 0, none⟩ v') := by
  have f : FrS B w u := FrS.own g h.own h.size
  have f2 : FrP B q w u := ⟨f.below, fun i o hi ho hq => (g.block i (lt_of_block hi) (fun e => by
    rcases h.own.2 with ⟨rfl, _⟩ | ⟨g', cap, cur, rfl, _, hg, _⟩
    · cases e
    · injection e with e
      subst e
      rw [hg] at hi
      injection hi with hi
      exact ho _ _ hi.symm)).trans hi⟩
  have bx : u.heap[q]? = some (.cells #[v] 59 (0, 0)) := f.other _ _ _ _ h.box (by decide)
  have sz := Nat.le_trans h.size g.size
  have e : zs.length + ys.length = (zs ++ ys).length := by simp
  rw [e] at o
  have o2 := o.kept (grown_setCell u q 0 v') (.inr (WrO.far o bx))
  refine ⟨bx, ⟨heap_setCell_same u q 0 _ _ v' bx, o2, h.bq, by simpa [World.setCell] using sz⟩, f2.trans ⟨(Below.refl B u).grown (grown_setCell u q 0 v') sz (fun k hk => by injection hk with e; have := h.bq; omega), fun i o hi _ hq => (heap_setCell_other u _ i v' (by simpa using hq)).trans hi⟩⟩
def PrO (B q : Nat) (w : World) (zs : List Int) (e : Ending) (u : World) : Prop := e = .returned (.tuple #[]) ∧ ∃ v', WrO B q u v' zs ∧ FrP B q w u

set_option maxRecDepth 8000 in
set_option maxHeartbeats 2000000 in
theorem addT (B q : Nat) (v : Value) (zs : List Int) (st : ByteArray) (ys : List Int) (w : World) (h : WrO B q w v zs) (hy : ofB st.data.toList = ys) (hb : zs.length + ys.length ≤ 1000000) :
    Calls Tryd.prog 40 #[.pointer (some ⟨q, 0, none⟩), .string st] w fun e u => PrO B q w (zs ++ ys) e u := by
  obtain ⟨i0, hi, hz0, hz1, hz2⟩ := info_parts infoS
  have HW : Hid _ := h
  obtain ⟨y0, yf⟩ := one_cell h.box
  clear h
  go_enter Tryd.func40, Tryd.ntmps40
  go_wp2_with (at_builtin; go_must (refine wpList_strB rfl _ _ 22 9 rfl B i0 Tryd.underlying22 Tryd.underlying9 hi hz0 hz1 hz2 v zs.length zs rfl HW.out.own st ys rfl hy (by omega) HW.out.size ?_); intro v2 u2 o2 g2; obtain ⟨-, a2, c2, rfl, -⟩ := ownsS o2; have X9 := HW.out.next o2 g2; obtain ⟨k0, kf⟩ := one_cell X9.1; have FF : Hid (WrO B q (u2.setCell ⟨q, 0, none⟩ (.slice a2 (zs.length + ys.length) c2)) (.slice a2 (zs.length + ys.length) c2) (zs ++ ys) ∧ FrP B q w (u2.setCell ⟨q, 0, none⟩ (.slice a2 (zs.length + ys.length) c2))) := X9.2; clear HW o2 g2 X9 y0 yf)
  (try simp only [Exit.inBlock, Exit.then])
  refine bodyPost_end (results_noneK (P := Tryd.prog) Tryd.results40 _ _) rfl ?_
  exact ⟨rfl, _, FF.out⟩
end Go.Proofs.YtpmndefmibnaeaaDoor.By
