/-
  What a put does to a world of our own, by its contract. No statement is proved here.
-/
import Derived.Test.YtccnninmkfhejaaYIg
namespace Go.Proofs.Ytccnninmkfhejaa.By
open Go.RowKit
set_option linter.unusedVariables false
set_option linter.unusedSimpArgs false

def fndK : List REntry → Int → Nat
  | [], _ => 0
  | x :: r, A => if x.key < A then fndK r A + 1 else 0
def fndB (xs : List REntry) (A : Int) : Bool := decide (fndK xs A < xs.length ∧ keyAt xs (fndK xs A) = A)
theorem fndK_eq {A : Int} : ∀ {xs : List REntry} {k : Nat}, k ≤ xs.length → (∀ i, i < k → keyAt xs i < A) → (k < xs.length → A ≤ keyAt xs k) → k = fndK xs A
  | [], k, hk, _, _ => by simp at hk; simp [fndK, hk]
  | x :: r, 0, _, _, h => by
    have := h (by simp)
    have h0 : ¬ x.key < A := by simp [keyAt] at this; omega
    simp [fndK, h0]
  | x :: r, k + 1, hk, h1, h2 => by
    have h0 : x.key < A := by simpa [keyAt] using h1 0 (by omega)
    have ih := fndK_eq (A := A) (xs := r) (k := k) (by simpa using hk) (fun i hi => by simpa [keyAt] using h1 (i + 1) (by omega)) (fun hh => by simpa [keyAt] using h2 (by simpa using hh))
    simp [fndK, h0, ← ih]
theorem fnd_is {xs : List REntry} {A : Int} {k : Nat} {b : Bool} (h : Fnd xs A k b) : k = fndK xs A ∧ b = fndB xs A := by
  obtain ⟨h1, h2, h3, rfl⟩ := h
  have := fndK_eq h1 h2 h3
  subst this
  exact ⟨rfl, rfl⟩
def putK (xs : List REntry) (A C : Int) (k : Nat) (b : Bool) : List REntry :=
  if b = true then xs.take k ++ ⟨A, C⟩ :: xs.drop (k + 1) else if xs.length < 20 then xs.take k ++ ⟨A, C⟩ :: xs.drop k else xs
def putV (xs : List REntry) (A C : Int) : List REntry := putK xs A C (fndK xs A) (fndB xs A)

theorem vE_set : ∀ (xs : List REntry) (k : Nat) (A C : Int), k < xs.length → keyAt xs k = A → (vE xs).set (k * 2 + 1) (.int .i64 C) = vE (xs.take k ++ ⟨A, C⟩ :: xs.drop (k + 1))
  | [], k, A, C, hk, _ => by simp at hk
  | x :: r, 0, A, C, _, he => by
    have : x.key = A := by simpa [keyAt] using he
    simp [vE, this]
  | x :: r, k + 1, A, C, hk, he => by
    have ih := vE_set r k A C (by simpa using hk) (by simpa [keyAt] using he)
    rw [show (k + 1) * 2 + 1 = k * 2 + 1 + 1 + 1 by omega]
    simp only [vE, List.take_succ_cons, List.drop_succ_cons, List.cons_append, List.set_cons_succ, ih]

/-- Rows of entries alone have turned: all else of a world of our own stands. -/
theorem mine_rows {u z : World} {B q : Nat} {x : RWorld} {d1 : Option Addr} {l1 k1 : Nat} {d2 : Option Addr} {l2 k2 : Nat} {d3 : Option Addr} {l3 k3 : Nat} {vs : List Value} {hi : Nat} {row : Option Nat} (h : Mine u B q x d1 l1 k1 d2 l2 k2 d3 l3 k3 vs hi) (hz : u.grownBy z row) (hrow : ∀ g, row = some g → ∃ cur, u.heap[g]? = some (.cells cur 66 (0, 0))) :
    z.heap[q]? = some (.cells #[.int .i64 x.ticks, .slice d1 l1 k1, .slice d2 l2 k2, .slice d3 l3 k3] 27 (0, 0)) ∧ OwI0 z B d1 l1 x.draws ∧ z.ownsRow B 36 5 (.slice d3 l3 k3) l3 vs ∧ EvO z hi x.trace vs B ∧ hi ≤ z.heap.size := by
  obtain ⟨h0, h1, h2, h3, h4, h5⟩ := h
  have hne : ∀ t', t' ≠ 66 → ∀ g, row = some g → ∀ cur, u.heap[g]? ≠ some (.cells cur t' (0, 0)) := fun t' ht g e cur e2 => by
    obtain ⟨cur', hc⟩ := hrow g e
    rw [hc] at e2
    cases e2
    exact ht rfl
  refine ⟨(hz.block q (lt_of_block h0) (fun e => hne 27 (by decide) q e.symm _ h0)).trans h0, h1.kept hz (hne 3 (by decide)), h3.kept hz ?_, h4.kept hz (hne 5 (by decide)), Nat.le_trans h5 hz.size⟩
  rcases h3.2 with ⟨e, -⟩ | ⟨g, cap, cur, e, -, hg, -⟩
  · left; rw [e]; rfl
  · right; rw [e]; intro e2; exact hne 36 (by decide) g e2.symm cur hg
theorem mine_set {z : World} {B q : Nat} {x : RWorld} {d1 : Option Addr} {l1 k1 : Nat} {d2 : Option Addr} {l2 k2 : Nat} {d3 : Option Addr} {l3 k3 : Nat} {vs : List Value} {hi : Nat} (h : z.heap[q]? = some (.cells #[.int .i64 x.ticks, .slice d1 l1 k1, .slice d2 l2 k2, .slice d3 l3 k3] 27 (0, 0)) ∧ OwI0 z B d1 l1 x.draws ∧ z.ownsRow B 36 5 (.slice d3 l3 k3) l3 vs ∧ EvO z hi x.trace vs B ∧ hi ≤ z.heap.size) {d' : Option Addr} {l' k' : Nat} {ys : List REntry} (ho : z.ownsRow B 66 2 (.slice d' l' k') l' (vE ys)) :
    Mine (z.setCell ⟨q, 2, none⟩ (.slice d' l' k')) B q { x with store := ys } d1 l1 k1 d' l' k' d3 l3 k3 vs hi := by
  obtain ⟨h0, h1, h3, h4, h5⟩ := h
  have kk := grown_setCell z q 2 (.slice d' l' k')
  have hne : ∀ t', t' ≠ 27 → ∀ g, some q = some g → ∀ cur, z.heap[g]? ≠ some (.cells cur t' (0, 0)) := fun t' ht g e cur e2 => by
    obtain rfl := Option.some.inj e
    rw [h0] at e2
    cases e2
    exact ht rfl
  exact ⟨heap_setCell_same _ q 2 _ _ (.slice d' l' k') h0, h1.kept kk (hne 3 (by decide)), ho.kept kk (row_ne ho h0 (by decide)), h3.kept kk (row_ne h3 h0 (by decide)), h4.kept kk (hne 5 (by decide)), Nat.le_trans h5 kk.size⟩

/-- A block that is no row of ours has turned. -/
theorem mine_keep {z z' : World} {B q p : Nat} {x : RWorld} {d1 : Option Addr} {l1 k1 : Nat} {d2 : Option Addr} {l2 k2 : Nat} {d3 : Option Addr} {l3 k3 : Nat} {vs : List Value} {hi : Nat} {cur : Array Value} (h : Mine z B q x d1 l1 k1 d2 l2 k2 d3 l3 k3 vs hi) (hz : z.grownBy z' (some p)) (hp : z.heap[p]? = some (.cells cur 36 (0, 0))) (hd : (Value.slice d3 l3 k3).ownBlock = none ∨ (Value.slice d3 l3 k3).ownBlock ≠ some p) :
    Mine z' B q x d1 l1 k1 d2 l2 k2 d3 l3 k3 vs hi := by
  obtain ⟨h0, h1, h2, h3, h4, h5⟩ := h
  have hne : ∀ t', t' ≠ 36 → ∀ g, some p = some g → ∀ cur, z.heap[g]? ≠ some (.cells cur t' (0, 0)) := fun t' ht g e cur e2 => by
    obtain rfl := Option.some.inj e
    rw [hp] at e2
    cases e2
    exact ht rfl
  exact ⟨(hz.block q (lt_of_block h0) (fun e => hne 27 (by decide) q e.symm _ h0)).trans h0, h1.kept hz (hne 3 (by decide)), h2.kept hz (row_ne h2 hp (by decide)), h3.kept hz hd, h4.kept hz (hne 5 (by decide)), Nat.le_trans h5 hz.size⟩
theorem row_old {w : World} {B : Nat} {t : TypeId} {s n : Nat} {v : Value} {zs : List Value} (h : w.ownsRow B t s v n zs) : v.ownBlock = none ∨ v.ownBlock ≠ some w.heap.size := by
  rcases h.2 with ⟨e, -⟩ | ⟨g, cap, cur, e, -, hg, -⟩
  · left; rw [e]; rfl
  · right; rw [e]; have := lt_of_block hg; simp [Value.ownBlock]; omega

theorem insertT (xs : List REntry) (A C : Int) (B vb : Nat) (d : Option Addr) (k n c : Nat) (u : World) (ho : u.ownsRow B 66 2 (.slice d n c) n (vE xs)) (hv : u.heap[vb]? = some (.cells #[.int .i64 A, .int .i64 C] 66 (0, 0))) (hvg : ∀ g, (Value.slice d n c).ownBlock = some g → vb ≠ g) (hk : k ≤ n) (hn : n ≤ 20) (hB : B ≤ u.heap.size) :
    Calls Try.prog 80 #[.slice d n c, .int .i64 k, .slice (some ⟨vb, 0, none⟩) 1 1] u fun e z => ∃ d' c' row, e = .returned (.slice d' (n + 1) c') ∧ z.ownsRow B 66 2 (.slice d' (n + 1) c') (n + 1) (vE (xs.take k ++ ⟨A, C⟩ :: xs.drop k)) ∧ u.grownBy z row ∧ (∀ g, row = some g → B ≤ g ∧ ∃ cur, u.heap[g]? = some (.cells cur 66 (0, 0))) := by
  have hxl : xs.length = n := by have := ho.1; rw [vE_len] at this; omega
  have hrow : ∀ g, (Value.slice d n c).ownBlock = some g → B ≤ g ∧ ∃ cur, u.heap[g]? = some (.cells cur 66 (0, 0)) := fun g e => by
    rcases ho.2 with ⟨e1, -⟩ | ⟨g', cap, cur, e1, hb, hg, -⟩
    · rw [e1] at e; cases e
    · rw [e1] at e
      have : g' = g := by simpa [Value.ownBlock] using e
      subst this
      exact ⟨hb, cur, hg⟩
  by_cases e : k = n
  · subst e
    refine (insertEndT (vE xs) A C B vb d k c u ho hv hn hB).mono ?_
    rintro e z ⟨d', c', rfl, h1, h2⟩
    refine ⟨d', c', _, rfl, ?_, h2, hrow⟩
    rw [vE_app, List.take_of_length_le (by omega), List.drop_eq_nil_of_le (by omega)]
    exact h1
  · rcases ho.2 with ⟨e1, h0⟩ | ⟨g, cap, cur, e1, hb, hg, hnc, hcm, -⟩
    · omega
    · cases e1
      by_cases hc : n + 1 ≤ c
      · refine (insertRoomT (vE xs) A C B vb g k n c u ho (vE_one xs) hv (hvg g rfl) (by omega) hc hn).mono ?_
        rintro e z ⟨rfl, h1, h2⟩
        rw [insC_vE] at h1
        exact ⟨_, _, some g, rfl, h1, h2, fun g' e => by cases e; exact ⟨hb, cur, hg⟩⟩
      · refine (insertGrowT (vE xs) A C B vb g k n c u ho (vE_one xs) hv (by omega) (by omega) hn hB).mono ?_
        rintro e z ⟨d', c', rfl, h1, h2⟩
        rw [insC_vE] at h1
        exact ⟨d', c', none, rfl, h1, h2, fun g' e => by cases e⟩


set_option maxRecDepth 8000 in
set_option maxHeartbeats 8000000 in
theorem putT (x : RWorld) (B q : Nat) (A C : Int) (a : Option Addr) (l c : Nat) (d1 : Option Addr) (l1 k1 : Nat) (d2 : Option Addr) (l2 k2 : Nat) (d3 : Option Addr) (l3 k3 : Nat) (vs : List Value) (hi : Nat) (w : World) (h : Mine w B q x d1 l1 k1 d2 l2 k2 d3 l3 k3 vs hi) (hB : B ≤ w.heap.size) (hq : B ≤ q) (hl2 : l2 ≤ 20) :
    Calls Try.prog 75 #[.pointer (some ⟨q, 0, none⟩), .int .i64 A, .int .i64 C, .slice a l c] w fun e u => DeedR w B q { x with store := putV x.store A C } ⟨0, A, C, [], 0⟩ e u := by
  have hm := h.none (World.grownBy_alloc w (.cells #[.int .i64 0, .int .i64 0, .int .i64 0, .slice none 0 0, .int .i64 0] 36) none)
  have hlt := lt_of_block h.1
  have CF : Hid _ := findT x.store A d2 l2 k2 q _ (blkWorld hm.1).1.2.2.1 ((own_slE hm.2.2.1 (by omega)).le CLe.unhidz)
  have bE := heap_alloc_new w (.cells #[.int .i64 0, .int .i64 0, .int .i64 0, .slice none 0 0, .int .i64 0] 36)
  have HM : Hid (Mine w B q x d1 l1 k1 d2 l2 k2 d3 l3 k3 vs hi ∧ B ≤ w.heap.size ∧ B ≤ q) := ⟨h, hB, hq⟩
  have L0 : Hid _ := And.intro bE (And.intro hm (World.grownBy_alloc w (.cells #[.int .i64 0, .int .i64 0, .int .i64 0, .slice none 0 0, .int .i64 0] 36) none))
  clear h hm hB hq bE
  go_enter Try.func75, Try.ntmps75
  go_wp2_with fail
  refine Calls.mono CF.out ?_
  rintro e u ⟨⟨k, b, rfl, hf⟩, hg⟩
  obtain ⟨bE, hm, g0⟩ := L0.out
  have bE := (hg.block _ (lt_of_block bE) (by simp)).trans bE
  have hmu := hm.none hg
  have gu := grown_trans g0 hg
  have hkl := hf.1
  have hxl : x.store.length = l2 := by have := hmu.2.2.1.1; rw [vE_len] at this; omega
  obtain ⟨ek, eb⟩ := fnd_is hf
  have EV : Hid (putV x.store A C = putK x.store A C k b) := by show _ = _; rw [putV, ← ek, ← eb]
  have EB : Hid (b = decide (k < x.store.length ∧ keyAt x.store k = A)) := hf.2.2.2
  have FX : Hid _ := And.intro bE (And.intro hmu gu)
  obtain ⟨⟨y0, y1, y2, y3⟩, hfy⟩ := blkWorld hmu.1
  have fy2 := hfy 2
  clear hmu hm hg g0 bE hfy hf CF L0 gu ek eb
  cases b with
  | true =>
    have hkk := of_decide_eq_true EB.out.symm
    obtain ⟨hkx, hke⟩ := hkk
    obtain ⟨bE, hmu, gu⟩ := FX.out
    obtain ⟨g, rfl, hbg, ⟨cur, hcur⟩, hc⟩ : ∃ g, d2 = some ⟨g, 0, none⟩ ∧ B ≤ g ∧ (∃ cur, u.heap[g]? = some (.cells cur 66 (0, 0))) ∧ ∀ j v, (vE x.store)[j]? = some v → (hideZ u B).cell? ⟨g, j, none⟩ = some v := by
      rcases row_cell hmu.2.2.1 with h0 | h0
      · omega
      · exact h0
    have hv : u.cell? ⟨g, k * 2 + 1, none⟩ = some (.int .i64 (valAt x.store k)) := CLe.unhidz _ _ (hc _ _ (vE_at hkx).2)
    have hfv := frozen_of_row u g (k * 2 + 1) _ _ hcur
    have hkl2 : k < l2 := by omega
    have st := hmu.2.2.1.stored (k * 2 + 1) (.int .i64 C)
    rw [vE_set x.store k A C hkx hke] at st
    have mr := mine_rows hmu st.2 (fun g' e => by cases e; exact ⟨cur, hcur⟩)
    have bE2 := (st.2.block _ (lt_of_block bE) (fun e => by
      have e' := Option.some.inj e
      rw [e', hcur] at bE
      cases bE)).trans bE
    obtain ⟨mf, kf⟩ := fillEvent (.int .i64 0) (.int .i64 A) (.int .i64 C) (.slice none 0 0) (.int .i64 0) bE2
    have EV2 : Hid (putV x.store A C = x.store.take k ++ ⟨A, C⟩ :: x.store.drop (k + 1)) := EV.out
    have ng : g ≠ w.heap.size := by
      intro e
      rw [← e, hcur] at bE
      cases bE
    have M2 : Mine (u.setCell ⟨g, k * 2 + 1, none⟩ (.int .i64 C)) B q { x with store := x.store.take k ++ ⟨A, C⟩ :: x.store.drop (k + 1) } d1 l1 k1 (some ⟨g, 0, none⟩) l2 k2 d3 l3 k3 vs hi := ⟨mr.1, mr.2.1, st.1, mr.2.2⟩
    have M3 := mine_keep M2 kf bE2 (row_old HM.out.1.2.2.2.1)
    have BB := ((((Below.refl B w).grown gu HM.out.2.1 (fun k e => by cases e)).setCell (p := ⟨g, k * 2 + 1, none⟩) hbg (.int .i64 C)).grown kf (by have := HM.out.2.1; have := gu.size; have := st.2.size; omega) (fun k e => by cases e; exact HM.out.2.1))
    have FQ : Hid _ := And.intro mf (And.intro M3 BB)
    obtain ⟨⟨x0, x1, x2, x3, x4⟩, hfx⟩ := blkEvent bE2
    have fx0 := hfx 0
    have fx1 := hfx 1
    have fx2 := hfx 2
    have fx3 := hfx 3
    have fx4 := hfx 4
    clear M2 M3 BB mf kf mr st bE2 bE hmu gu hc hcur FX EV EB hfx hkx
    simp only []
    go_wp2
    rw [EV2.out]
    (try simp only [Exit.inBlock, Exit.then])
    refine bodyPost_ret (results_cell_row (P := Try.prog) Try.results75 _ _ _ _ _ _ _ rfl FQ.out.1 Try.underlying36 rfl (by kernel_rfl)) rfl ?_
    exact ⟨none, 0, 0, d1, l1, k1, _, l2, k2, d3, l3, k3, vs, hi, rfl, FQ.out.2.1, ⟨World.ownsRow_nil _ _ _ _, fun z hz => by simp at hz, by omega⟩, FQ.out.2.2⟩
  | false =>
    by_cases h20 : l2 < 20
    rotate_left
    · have EV2 : Hid (putV x.store A C = x.store) := by show _ = _; rw [EV.out]; simp [putK, hxl, h20]
      obtain ⟨bE, hmu, gu⟩ := FX.out
      obtain ⟨mf, kf⟩ := fillEvent (.int .i64 0) (.int .i64 A) (.int .i64 C) (.slice none 0 0) (.int .i64 0) bE
      have FQ : Hid _ := And.intro mf (grown_into gu kf (Nat.le_refl _))
      obtain ⟨⟨x0, x1, x2, x3, x4⟩, hfx⟩ := blkEvent bE
      have fx0 := hfx 0
      have fx1 := hfx 1
      have fx2 := hfx 2
      have fx3 := hfx 3
      have fx4 := hfx 4
      clear mf kf bE hmu gu FX EV EB hfx
      simp only []
      go_wp2
      rw [EV2.out]
      (try simp only [Exit.inBlock, Exit.then])
      refine bodyPost_ret (results_cell_row (P := Try.prog) Try.results75 _ _ _ _ _ _ _ rfl FQ.out.1 Try.underlying36 rfl (by kernel_rfl)) rfl ?_
      exact deed_fin2 HM.out.1 FQ.out.2 HM.out.2.1 _ _ _ _
    · have EV2 : Hid (putV x.store A C = x.store.take k ++ ⟨A, C⟩ :: x.store.drop k) := by show _ = _; rw [EV.out]; simp [putK, hxl, h20]
      obtain ⟨bE, hmu, gu⟩ := FX.out
      have ga := World.grownBy_alloc u (.cells #[.int .i64 A, .int .i64 C] 66) none
      have ba := heap_alloc_new u (.cells #[.int .i64 A, .int .i64 C] 66)
      have hma := hmu.none ga
      have CI : Hid _ := insertT x.store A C B u.heap.size d2 k l2 k2 _ hma.2.2.1 ba (fun g e => by
        have := (hmu.2.2.1.lt g e).2
        omega) (by omega) hl2 (by have := HM.out.2.1; have := (grown_trans gu ga).size; omega)
      have L1 : Hid _ := And.intro ((ga.block _ (lt_of_block bE) (by simp)).trans bE) (And.intro hma (grown_trans gu ga))
      clear bE hmu gu ga ba hma FX EV EB
      simp only []
      go_wp2_with fail
      refine Calls.mono CI.out ?_
      rintro e z ⟨d', c', row, rfl, ho, hg, hrow⟩
      obtain ⟨bE, hma, gu⟩ := L1.out
      have mr := mine_rows hma hg (fun g e => (hrow g e).2)
      have bE2 := (hg.block _ (lt_of_block bE) (fun e => by
        obtain ⟨cur, hc⟩ := (hrow _ e.symm).2
        rw [hc] at bE
        cases bE)).trans bE
      have M2 := mine_set mr ho
      have nq : q ≠ w.heap.size := by omega
      have kq := grown_setCell z q 2 (.slice d' (l2 + 1) c')
      have bE3 := (kq.block _ (lt_of_block bE2) (by simp; omega)).trans bE2
      obtain ⟨mf, kf⟩ := fillEvent (.int .i64 0) (.int .i64 A) (.int .i64 C) (.slice none 0 0) (.int .i64 0) bE3
      have M3 := mine_keep M2 kf bE3 (row_old HM.out.1.2.2.2.1)
      have b1 := ((Below.refl B w).grown gu HM.out.2.1 (fun k e => by cases e)).grown hg (by have := HM.out.2.1; have := gu.size; omega) (fun g e => (hrow g e).1)
      have b2 := b1.setCell (p := ⟨q, 2, none⟩) HM.out.2.2 (.slice d' (l2 + 1) c')
      have b3 := b2.grown kf (by have := HM.out.2.1; have := gu.size; have := hg.size; have := kq.size; omega) (fun k e => by cases e; exact HM.out.2.1)
      have FQ : Hid _ := And.intro mf (And.intro M3 b3)
      obtain ⟨⟨y0, y1, y2, y3⟩, hfy⟩ := blkWorld mr.1
      have fy2 := hfy 2
      obtain ⟨⟨x0, x1, x2, x3, x4⟩, hfx⟩ := blkEvent bE2
      have fx0 := hfx 0
      have fx1 := hfx 1
      have fx2 := hfx 2
      have fx3 := hfx 3
      have fx4 := hfx 4
      clear bE hma gu mr bE2 M2 kq bE3 mf kf M3 b1 b2 b3 hfy hfx L1 CI ho hg hrow
      simp only []
      go_wp2
      rw [EV2.out]
      (try simp only [Exit.inBlock, Exit.then])
      refine bodyPost_ret (results_cell_row (P := Try.prog) Try.results75 _ _ _ _ _ _ _ rfl FQ.out.1 Try.underlying36 rfl (by kernel_rfl)) rfl ?_
      exact ⟨none, 0, 0, d1, l1, k1, d', l2 + 1, c', d3, l3, k3, vs, hi, rfl, FQ.out.2.1, ⟨World.ownsRow_nil _ _ _ _, fun z hz => by simp at hz, by omega⟩, FQ.out.2.2⟩
end Go.Proofs.Ytccnninmkfhejaa.By
