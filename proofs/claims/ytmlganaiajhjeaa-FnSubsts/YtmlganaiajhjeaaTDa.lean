/-
  A tree in a box that is drawn and bent. No statement is proved here.
-/
import Derived.Test.YtmlganaiajhjeaaTDr
import Derived.Deep.DeepCutAuto
import Derived.Deep.CutBlock
namespace Go.Proofs.Ytmlganaiajhjeaa.By
open Go.RowKit
set_option linter.unusedVariables false
set_option linter.unusedSimpArgs false

/-- A tree in the box q3, in memory of its own; the result's cell q2 is empty yet. -/
structure TrS (w0 w : World) (g : Nat) (a : Option Addr) (n cap : Nat) (q2 q3 : Nat) (k m : Int) (a1 : Option Addr) (l1 c1 : Nat) (f : F) (bs : List Nat) (u : World) : Prop where
  kept : Kept w0 w u g a n cap
  res : u.heap[q2]? = some (Obj.cells #[.int .i64 0, .int .i64 0, .slice none 0 0] 25)
  box : u.heap[q3]? = some (Obj.cells #[.int .i64 k, .int .i64 m, .slice a1 l1 c1] 25)
  own : SlO u 25 a1 l1 c1 f bs
  nd : bs.Nodup
  gt : ∀ y ∈ bs, q2 < y ∧ y ≠ q3
variable {w0 w u u' : World} {g n cap q2 q3 : Nat} {a a1 : Option Addr} {k m : Int} {l1 c1 : Nat} {f : F} {bs : List Nat}
theorem TrS.quiet (h : TrS w0 w g a n cap q2 q3 k m a1 l1 c1 f bs u) (hg : u.grownBy u' Option.none) : TrS w0 w g a n cap q2 q3 k m a1 l1 c1 f bs u' :=
  ⟨h.kept.none hg, (hg.block _ (lt_of_block h.res) (by simp)).trans h.res, (hg.block _ (lt_of_block h.box) (by simp)).trans h.box, h.own.old hg, h.nd, h.gt⟩
theorem TrS.cur (h : TrS w0 w g a n cap q2 q3 k m a1 l1 c1 f bs u) (hk : Kept w0 u u' g a n cap) (h1 : g < q2) (h2 : q2 < q3) : TrS w0 w g a n cap q2 q3 k m a1 l1 c1 f bs u' :=
  ⟨h.kept.trans hk, (hk.2.block _ (lt_of_block h.res) (by simp; omega)).trans h.res, (hk.2.block _ (lt_of_block h.box) (by simp; omega)).trans h.box, h.own.kept hk.2 (fun y hy => by have := (h.gt y hy).1; simp; omega), h.nd, h.gt⟩
/-- The box is turned, its slice is another of ours. -/
theorem TrS.turn {k' m' : Int} {a' : Option Addr} {l' c' : Nat} {f' : F} {bs' : List Nat} (h : TrS w0 w g a n cap q2 q3 k m a1 l1 c1 f bs u) (hg : u.grownBy u' (some q3)) (hb : u'.heap[q3]? = some (Obj.cells #[.int .i64 k', .int .i64 m', .slice a' l' c'] 25)) (ho : SlO u' 25 a' l' c' f' bs') (hn : bs'.Nodup) (hgt : ∀ y ∈ bs', q2 < y ∧ y ≠ q3) (h0 : w.heap.size ≤ q2) (h1 : g < q2) (h2 : q2 < q3) (h3 : w0.heap.size ≤ w.heap.size) : TrS w0 w g a n cap q2 q3 k' m' a' l' c' f' bs' u' :=
  ⟨h.kept.into hg (by omega) (by omega) h3, (hg.block _ (lt_of_block h.res) (by simp; omega)).trans h.res, hb, ho, hn, hgt⟩
/-- Wrapped once. -/
theorem TrS.wrap1 (h : TrS w0 w g a n cap q2 q3 k m a1 l1 c1 f bs u) (kk nn : Int) (h0 : w.heap.size ≤ q2) (h1 : g < q2) (h2 : q2 < q3) (h3 : w0.heap.size ≤ w.heap.size) :
    TrS w0 w g a n cap q2 q3 kk nn (some ⟨u.heap.size, 0, none⟩) 1 1 (.cons k m f .nil) (u.heap.size :: bs) ((((u.setCell ⟨q3, 0, none⟩ (.int .i64 kk)).setCell ⟨q3, 1, none⟩ (.int .i64 nn)).setCell ⟨q3, 2, none⟩ (.slice (some ⟨u.heap.size, 0, none⟩) 1 1)).alloc (.cells #[.int .i64 k, .int .i64 m, .slice a1 l1 c1] 25)) := by
  obtain ⟨d1, k1⟩ := fill3 (.int .i64 kk) (.int .i64 nn) (.slice (some ⟨u.heap.size, 0, none⟩) 1 1) h.box
  have hq3 := lt_of_block h.box
  have hS := h.own.kept k1 (fun y hy => by have := (h.gt y hy).2; simp; omega)
  have hL := lit1 (k := k) (n := m) hS
  have esz : (((u.setCell ⟨q3, 0, none⟩ (.int .i64 kk)).setCell ⟨q3, 1, none⟩ (.int .i64 nn)).setCell ⟨q3, 2, none⟩ (.slice (some ⟨u.heap.size, 0, none⟩) 1 1)).heap.size = u.heap.size := by simp
  rw [esz] at hL
  have ga := World.grownBy_alloc (((u.setCell ⟨q3, 0, none⟩ (.int .i64 kk)).setCell ⟨q3, 1, none⟩ (.int .i64 nn)).setCell ⟨q3, 2, none⟩ (.slice (some ⟨u.heap.size, 0, none⟩) 1 1)) (.cells #[.int .i64 k, .int .i64 m, .slice a1 l1 c1] 25) none
  exact h.turn (grown_trans k1 (wide_noneV ga _)) ((ga.block _ (lt_of_block d1) (by simp)).trans d1) hL (List.nodup_cons.2 ⟨fun hx => by have := h.own.lt _ hx; omega, h.nd⟩) (fun y hy => by
    rcases List.mem_cons.1 hy with rfl | hy
    · omega
    · exact h.gt y hy) h0 h1 h2 h3
/-- Two parts. -/
theorem TrS.wrap2 {k1' m1 k2' m2 : Int} {b1 b2 : Option Addr} {s1 e1 s2 e2 : Nat} {f1 f2 : F} {bs1 bs2 : List Nat} (h : TrS w0 w g a n cap q2 q3 k m a1 l1 c1 f bs u) (kk nn : Int) (o1 : SlO u 25 b1 s1 e1 f1 bs1) (o2 : SlO u 25 b2 s2 e2 f2 bs2) (n1 : bs1.Nodup) (n2 : bs2.Nodup) (g1 : ∀ y ∈ bs1, q2 < y ∧ y ≠ q3) (g2 : ∀ y ∈ bs2, q2 < y ∧ y ≠ q3) (dis : ∀ x ∈ bs1, x ∉ bs2) (h0 : w.heap.size ≤ q2) (h1 : g < q2) (h2 : q2 < q3) (h3 : w0.heap.size ≤ w.heap.size) :
    TrS w0 w g a n cap q2 q3 kk nn (some ⟨u.heap.size, 0, none⟩) 2 2 (.cons k1' m1 f1 (.cons k2' m2 f2 .nil)) (u.heap.size :: (bs1 ++ bs2)) ((((u.setCell ⟨q3, 0, none⟩ (.int .i64 kk)).setCell ⟨q3, 1, none⟩ (.int .i64 nn)).setCell ⟨q3, 2, none⟩ (.slice (some ⟨u.heap.size, 0, none⟩) 2 2)).alloc (.cells #[.int .i64 k1', .int .i64 m1, .slice b1 s1 e1, .int .i64 k2', .int .i64 m2, .slice b2 s2 e2] 25)) := by
  obtain ⟨d1, kg⟩ := fill3 (.int .i64 kk) (.int .i64 nn) (.slice (some ⟨u.heap.size, 0, none⟩) 2 2) h.box
  have hq3 := lt_of_block h.box
  have hS1 := o1.kept kg (fun y hy => by have := (g1 y hy).2; simp; omega)
  have hS2 := o2.kept kg (fun y hy => by have := (g2 y hy).2; simp; omega)
  have hL := lit2 (k := k1') (n := m1) (k' := k2') (n' := m2) hS1 hS2
  have esz : (((u.setCell ⟨q3, 0, none⟩ (.int .i64 kk)).setCell ⟨q3, 1, none⟩ (.int .i64 nn)).setCell ⟨q3, 2, none⟩ (.slice (some ⟨u.heap.size, 0, none⟩) 2 2)).heap.size = u.heap.size := by simp
  rw [esz] at hL
  have ga := World.grownBy_alloc (((u.setCell ⟨q3, 0, none⟩ (.int .i64 kk)).setCell ⟨q3, 1, none⟩ (.int .i64 nn)).setCell ⟨q3, 2, none⟩ (.slice (some ⟨u.heap.size, 0, none⟩) 2 2)) (.cells #[.int .i64 k1', .int .i64 m1, .slice b1 s1 e1, .int .i64 k2', .int .i64 m2, .slice b2 s2 e2] 25) none
  exact h.turn (grown_trans kg (wide_noneV ga _)) ((ga.block _ (lt_of_block d1) (by simp)).trans d1) hL (List.nodup_cons.2 ⟨fun hx => by
      rcases List.mem_append.1 hx with hx | hx
      · have := o1.lt _ hx; omega
      · have := o2.lt _ hx; omega, List.nodup_append.2 ⟨n1, n2, fun x hx y hy e => dis x hx (e ▸ hy)⟩⟩) (fun y hy => by
    rcases List.mem_cons.1 hy with rfl | hy
    · omega
    · rcases List.mem_append.1 hy with hy | hy
      · exact g1 y hy
      · exact g2 y hy) h0 h1 h2 h3
/-- The same, the row made first. -/
theorem TrS.wrap2b {k1' m1 k2' m2 : Int} {b1 b2 : Option Addr} {s1 e1 s2 e2 : Nat} {f1 f2 : F} {bs1 bs2 : List Nat} (h : TrS w0 w g a n cap q2 q3 k m a1 l1 c1 f bs u) (kk nn : Int) (o1 : SlO u 25 b1 s1 e1 f1 bs1) (o2 : SlO u 25 b2 s2 e2 f2 bs2) (n1 : bs1.Nodup) (n2 : bs2.Nodup) (g1 : ∀ y ∈ bs1, q2 < y ∧ y ≠ q3) (g2 : ∀ y ∈ bs2, q2 < y ∧ y ≠ q3) (dis : ∀ x ∈ bs1, x ∉ bs2) (h0 : w.heap.size ≤ q2) (h1 : g < q2) (h2 : q2 < q3) (h3 : w0.heap.size ≤ w.heap.size) :
    TrS w0 w g a n cap q2 q3 kk nn (some ⟨u.heap.size, 0, none⟩) 2 2 (.cons k1' m1 f1 (.cons k2' m2 f2 .nil)) (u.heap.size :: (bs1 ++ bs2)) ((((u.alloc (.cells #[.int .i64 k1', .int .i64 m1, .slice b1 s1 e1, .int .i64 k2', .int .i64 m2, .slice b2 s2 e2] 25)).setCell ⟨q3, 0, none⟩ (.int .i64 kk)).setCell ⟨q3, 1, none⟩ (.int .i64 nn)).setCell ⟨q3, 2, none⟩ (.slice (some ⟨u.heap.size, 0, none⟩) 2 2)) := by
  have hq3 := lt_of_block h.box
  have ga := World.grownBy_alloc u (.cells #[.int .i64 k1', .int .i64 m1, .slice b1 s1 e1, .int .i64 k2', .int .i64 m2, .slice b2 s2 e2] 25) none
  have hL := lit2 (k := k1') (n := m1) (k' := k2') (n' := m2) o1 o2
  have hA := h.quiet ga
  obtain ⟨d1, kg⟩ := fill3 (.int .i64 kk) (.int .i64 nn) (.slice (some ⟨u.heap.size, 0, none⟩) 2 2) hA.box
  have hgt : ∀ y ∈ u.heap.size :: (bs1 ++ bs2), q2 < y ∧ y ≠ q3 := fun y hy => by
    rcases List.mem_cons.1 hy with rfl | hy
    · omega
    · rcases List.mem_append.1 hy with hy | hy
      · exact g1 y hy
      · exact g2 y hy
  exact hA.turn kg d1 (hL.kept kg (fun y hy => by have := (hgt y hy).2; simp; omega)) (List.nodup_cons.2 ⟨fun hx => by
      rcases List.mem_append.1 hx with hx | hx
      · have := o1.lt _ hx; omega
      · have := o2.lt _ hx; omega, List.nodup_append.2 ⟨n1, n2, fun x hx y hy e => dis x hx (e ▸ hy)⟩⟩) hgt h0 h1 h2 h3
/-- The box is filled anew, after the row was made or without one. -/
theorem TrS.bend {k' m' : Int} {a' : Option Addr} {l' c' : Nat} {f' : F} {bs' : List Nat} (h : TrS w0 w g a n cap q2 q3 k m a1 l1 c1 f bs u) (ho : SlO u 25 a' l' c' f' bs') (hn : bs'.Nodup) (hgt : ∀ y ∈ bs', q2 < y ∧ y ≠ q3) (h0 : w.heap.size ≤ q2) (h1 : g < q2) (h2 : q2 < q3) (h3 : w0.heap.size ≤ w.heap.size) : TrS w0 w g a n cap q2 q3 k' m' a' l' c' f' bs' (((u.setCell ⟨q3, 0, none⟩ (.int .i64 k')).setCell ⟨q3, 1, none⟩ (.int .i64 m')).setCell ⟨q3, 2, none⟩ (.slice a' l' c')) := by
  obtain ⟨d1, kg⟩ := fill3 (.int .i64 k') (.int .i64 m') (.slice a' l' c') h.box
  exact h.turn kg d1 (ho.kept kg (fun y hy => by have := (hgt y hy).2; simp; omega)) hn hgt h0 h1 h2 h3
theorem TrS.setK (h : TrS w0 w g a n cap q2 q3 k m a1 l1 c1 f bs u) (x : Int) (h0 : w.heap.size ≤ q2) (h1 : g < q2) (h2 : q2 < q3) (h3 : w0.heap.size ≤ w.heap.size) : TrS w0 w g a n cap q2 q3 x m a1 l1 c1 f bs (u.setCell ⟨q3, 0, none⟩ (.int .i64 x)) := by
  have ks := grown_setCell u q3 0 (.int .i64 x)
  exact h.turn ks (heap_setCell_same u q3 0 _ _ _ h.box) (h.own.kept ks (fun y hy => by have := (h.gt y hy).2; simp; omega)) h.nd h.gt h0 h1 h2 h3
theorem TrS.setN (h : TrS w0 w g a n cap q2 q3 k m a1 l1 c1 f bs u) (x : Int) (h0 : w.heap.size ≤ q2) (h1 : g < q2) (h2 : q2 < q3) (h3 : w0.heap.size ≤ w.heap.size) : TrS w0 w g a n cap q2 q3 k x a1 l1 c1 f bs (u.setCell ⟨q3, 1, none⟩ (.int .i64 x)) := by
  have ks := grown_setCell u q3 1 (.int .i64 x)
  exact h.turn ks (heap_setCell_same u q3 1 _ _ _ h.box) (h.own.kept ks (fun y hy => by have := (h.gt y hy).2; simp; omega)) h.nd h.gt h0 h1 h2 h3
/-- Its own blocks are turned, nothing else. -/
theorem TrS.tn {a' : Option Addr} {l' c' : Nat} {f' : F} {bs' : List Nat} (h : TrS w0 w g a n cap q2 q3 k m a1 l1 c1 f bs u) (ht : Tn u u' bs) (ho : SlO u' 25 a' l' c' f' bs') (hn : bs'.Nodup) (hb : ∀ y ∈ bs', y ∈ bs ∨ y ∈ ([] : List Nat) ∨ u.heap.size ≤ y) (h0 : w.heap.size ≤ q2) (h1 : g < q2) (h2 : q2 < q3) (h3 : w0.heap.size ≤ w.heap.size) : TrS w0 w g a n cap q2 q3 k m a' l' c' f' bs' (u'.setCell ⟨q3, 2, none⟩ (.slice a' l' c')) := by
  have hq3 := lt_of_block h.box
  have hgt : ∀ y ∈ bs', q2 < y ∧ y ≠ q3 := fun y hy => by
    rcases hb y hy with hy | hy | hy
    · exact h.gt y hy
    · simp at hy
    · omega
  have hgu : g < u.heap.size := by omega
  have ng : g ∉ bs := fun hx => by have := (h.gt g hx).1; omega
  have hK : Kept w0 w u' g a n cap := by
    obtain ⟨⟨c1', c2', i, x, hbx, hi⟩, hgr⟩ := h.kept
    have hB : Below w0.heap.size w0 u' := ⟨ht.os.trans c2'.os, ht.tape.trans c2'.tape, ht.output.trans c2'.output, Nat.le_trans c2'.size ht.size, fun j hj => (ht.block j (Nat.lt_of_lt_of_le hj c2'.size) (fun hx => by have := (h.gt j hx).1; omega)).trans (c2'.block j hj)⟩
    exact ⟨⟨c1', hB, i, x, (ht.block g hgu ng).trans hbx, hi⟩, ⟨ht.os.trans hgr.os, ht.tape.trans hgr.tape, ht.output.trans hgr.output, Nat.le_trans hgr.size ht.size, fun j hj hr => (ht.block j (Nat.lt_of_lt_of_le hj hgr.size) (fun hx => by have := (h.gt j hx).1; omega)).trans (hgr.block j hj hr)⟩⟩
  have hA : TrS w0 w g a n cap q2 q3 k m a1 l1 c1 .nil [] u' → True := fun _ => trivial
  have ks := grown_setCell u' q3 2 (.slice a' l' c')
  have hbx := (ht.block q3 hq3 (fun hx => (h.gt q3 hx).2 rfl)).trans h.box
  have hrs := (ht.block q2 (lt_of_block h.res) (fun hx => by have := (h.gt q2 hx).1; omega)).trans h.res
  exact ⟨hK.into ks (by omega) (by omega) h3, (ks.block _ (lt_of_block hrs) (by simp; omega)).trans hrs, heap_setCell_same u' q3 2 _ _ _ hbx, ho.kept ks (fun y hy => by have := (hgt y hy).2; simp; omega), hn, hgt⟩
/-- Trees of no parts, all zero. -/
def zeroF : Nat → F
  | 0 => .nil
  | j + 1 => .cons 0 0 .nil (zeroF j)
theorem zeroF_len (j : Nat) : (zeroF j).len = j := by induction j with | zero => rfl | succ j ih => simp [zeroF, F.len, ih]
theorem zeroF_size (j : Nat) : (zeroF j).size = j := by
  induction j with
  | zero => rfl
  | succ j ih => have e : (F.cons 0 0 .nil (zeroF j)).size = 1 + F.nil.size + (zeroF j).size := rfl; rw [zeroF, e, ih]; simp [F.size]; omega
theorem zeroF_own {v : World} {b : Nat} (N : Nat) (hc : ∀ i, i < N * 3 → v.cell? ⟨b, i, none⟩ = (madeCells #[.int .i64 0, .int .i64 0, .slice Option.none 0 0] (N * 3))[i]?) : ∀ j off, off + j * 3 = N * 3 → OwnF v 25 (zeroF j) b off [] := by
  intro j
  induction j with
  | zero => intro off _; rfl
  | succ j ih =>
    intro off he
    have hm : off % 3 = 0 := by omega
    have z0 := hc off (by omega)
    have z1 := hc (off + 1) (by omega)
    have z2 := hc (off + 2) (by omega)
    have e0 : (madeCells #[Value.int .i64 0, .int .i64 0, .slice Option.none 0 0] (N * 3))[off]? = some (.int .i64 0) := by
      simp [madeCells, show off < N * 3 by omega, hm]
    have e1 : (madeCells #[Value.int .i64 0, .int .i64 0, .slice Option.none 0 0] (N * 3))[off + 1]? = some (.int .i64 0) := by
      simp [madeCells, show off + 1 < N * 3 by omega, show (off + 1) % 3 = 1 by omega]
    have e2 : (madeCells #[Value.int .i64 0, .int .i64 0, .slice Option.none 0 0] (N * 3))[off + 2]? = some (.slice Option.none 0 0) := by
      simp [madeCells, show off + 2 < N * 3 by omega, show (off + 2) % 3 = 2 by omega]
    have := OwnF.mk (bs1 := []) (bs2 := []) (z0.trans e0) (z1.trans e1) (z2.trans e2) (⟨rfl, by omega, by omega, .inl ⟨rfl, rfl⟩⟩ : SlO v 25 Option.none 0 0 .nil []) (ih (off + 3) (by omega))
    simpa [zeroF] using this
theorem madeT_own (v : World) (N : Nat) (h : N ≤ 4194304) : ∃ bs, SlO (v.alloc (.cells (madeCells #[.int .i64 0, .int .i64 0, .slice Option.none 0 0] (N * 3)) 25)) 25 (some ⟨v.heap.size, 0, Option.none⟩) N N (zeroF N) bs ∧ bs.Nodup ∧ ∀ y ∈ bs, y = v.heap.size := by
  by_cases h0 : N = 0
  · subst h0
    exact ⟨[], ⟨rfl, by omega, by omega, .inl ⟨rfl, rfl⟩⟩, List.nodup_nil, fun y hy => by simp at hy⟩
  · have hb := heap_alloc_new v (.cells (madeCells #[.int .i64 0, .int .i64 0, .slice Option.none 0 0] (N * 3)) 25)
    have ho := zeroF_own (v := v.alloc (.cells (madeCells #[.int .i64 0, .int .i64 0, .slice Option.none 0 0] (N * 3)) 25)) (b := v.heap.size) N (fun i hi => by unfold World.cell?; rw [hb]; rfl) N 0 (by omega)
    exact ⟨[v.heap.size], ⟨zeroF_len N, by omega, by omega, .inr ⟨_, [], by omega, rfl, rfl, madeT_blk v N, ho⟩⟩, by simp, fun y hy => by simpa using hy⟩
theorem TrS.madeBend (h : TrS w0 w g a n cap q2 q3 k m a1 l1 c1 f bs u) (kk nn : Int) (N : Nat) (hN : N ≤ 4194304) (h0 : w.heap.size ≤ q2) (h1 : g < q2) (h2 : q2 < q3) (h3 : w0.heap.size ≤ w.heap.size) :
    ∃ bs', TrS w0 w g a n cap q2 q3 kk nn (some ⟨u.heap.size, 0, Option.none⟩) N N (zeroF N) bs' ((((u.setCell ⟨q3, 0, Option.none⟩ (.int .i64 kk)).setCell ⟨q3, 1, Option.none⟩ (.int .i64 nn)).setCell ⟨q3, 2, Option.none⟩ (.slice (some ⟨u.heap.size, 0, Option.none⟩) N N)).alloc (.cells (madeCells #[.int .i64 0, .int .i64 0, .slice Option.none 0 0] (N * 3)) 25)) := by
  obtain ⟨d1, k1⟩ := fill3 (.int .i64 kk) (.int .i64 nn) (.slice (some ⟨u.heap.size, 0, Option.none⟩) N N) h.box
  have hq3 := lt_of_block h.box
  obtain ⟨bs', o1, o2, o3⟩ := madeT_own (((u.setCell ⟨q3, 0, Option.none⟩ (.int .i64 kk)).setCell ⟨q3, 1, Option.none⟩ (.int .i64 nn)).setCell ⟨q3, 2, Option.none⟩ (.slice (some ⟨u.heap.size, 0, Option.none⟩) N N)) N hN
  have esz : (((u.setCell ⟨q3, 0, Option.none⟩ (.int .i64 kk)).setCell ⟨q3, 1, Option.none⟩ (.int .i64 nn)).setCell ⟨q3, 2, Option.none⟩ (.slice (some ⟨u.heap.size, 0, Option.none⟩) N N)).heap.size = u.heap.size := by simp
  rw [esz] at o1 o3
  have ga := World.grownBy_alloc (((u.setCell ⟨q3, 0, Option.none⟩ (.int .i64 kk)).setCell ⟨q3, 1, Option.none⟩ (.int .i64 nn)).setCell ⟨q3, 2, Option.none⟩ (.slice (some ⟨u.heap.size, 0, Option.none⟩) N N)) (.cells (madeCells #[.int .i64 0, .int .i64 0, .slice Option.none 0 0] (N * 3)) 25) Option.none
  exact ⟨bs', h.turn (grown_trans k1 (wide_noneV ga _)) ((ga.block _ (lt_of_block d1) (by simp)).trans d1) o1 o2 (fun y hy => by have := o3 y hy; omega) h0 h1 h2 h3⟩
/-- A tree is handed back, in memory of its own; the cursor has moved. -/
def DrA (w0 w : World) (g : Nat) (a : Option Addr) (n cap : Nat) (e : Ending) (u : World) : Prop :=
  ∃ (k m : Int) (f : F) (a' : Option Addr) (l' c' : Nat) (bs : List Nat), e = .returned (.agg #[.int .i64 k, .int .i64 m, .slice a' l' c']) ∧ Kept w0 w u g a n cap ∧ New w u 25 a' l' c' f bs
end Go.Proofs.Ytmlganaiajhjeaa.By
