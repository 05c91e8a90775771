/-
  The contract of the specification's copy of a heap, for this seat's proofs. No statement is proved here.
-/
import Derived.Test.YtonmcndedbmbfabDoorHOwnT
import Derived.Deep.RegionHeld
namespace Go.Proofs.YtonmcndedbmbfabDoor.By
open Go.RowKit
set_option linter.unusedVariables false
set_option linter.unusedSimpArgs false

theorem run_copy {P : Program} {w : World} (t ty : TypeId) (B : Nat) (e : TypeId) (i : TypeInfo) (z : Value) (size bytes : Nat) (ht : P.underlying t = some (.slice e)) (hi : P.info? e = some i) (hz : i.zero = some z)
    (hsize : i.size = size) (hby : i.bytes = bytes) (hzs : z.cells.size = size) (hsz : 0 < size) (v : Value) (hown : w.ownsRow B e size v 0 (valsI [])) (src : Option Addr) (m c : Nat) (zs : List Int)
    (hr : ReadsI w src (m * size) zs) (hn : src = none → c = 0) (hm : m ≤ 1048576) (hbytes : m * bytes ≤ 140737488355328) (hB : B ≤ w.heap.size) :
    ∃ v' w', (Builtin.append_ #[t, t] ty #[v, .slice src m c]).run P w = .ok v' w' ∧ w'.ownsRow B e size v' m (valsI zs) ∧ w.grownBy w' v.ownBlock := by
  obtain ⟨hl, hr⟩ := hr
  cases src with
  | none =>
    obtain rfl := hn rfl
    have hm0 : m * size = 0 := by
      rcases hr with h | ⟨_, _, h, _⟩
      · exact h
      · cases h
    obtain rfl : m = 0 := by
      rcases Nat.mul_eq_zero.1 hm0 with h | h
      · exact h
      · omega
    obtain rfl : zs = [] := List.eq_nil_of_length_eq_zero (by omega)
    exact ⟨v, w, run_append_owned_none (P := P) (w := w) B t ty e i size ht hi v 0 _ hown, hown, World.grownBy.refl _ _⟩
  | some ad =>
    have hnews : ∀ j u, (valsI zs)[j]? = some u → w.cell? (ad.add j) = some u := by
      rcases hr with h | ⟨b, off, h, hc⟩
      · have : zs = [] := List.eq_nil_of_length_eq_zero (by omega)
        subst this
        intro j u hu; simp [valsI] at hu
      · cases h; exact reads_news hl hc
    obtain ⟨v', w', h1, h2, h3, -⟩ := run_append_own (P := P) w B t ty e i z size bytes ht hi hz hsize hby hzs hsz v 0 (valsI []) hown ad m c (valsI zs) (by simp [valsI, hl]) hnews (one_vals zs) (by simp [maxLen]; omega) (by simpa using hbytes) hB
    exact ⟨v', w', h1, by simpa [valsI] using h2, h3⟩

theorem step_copy {P : Program} {ops : Array Oper} {o : Oper} {a : Act} {w : World} {K : Act → World → Prop} {Q : Exit → Act → World → Prop} {E : Prop}
    (hg : o.guard = none) (s x : Operand) (t : TypeId) (ho : o.op = .call { callee := .builtin .append, args := #[s, x], argTypes := #[t, t] })
    (B : Nat) (e : TypeId) (i : TypeInfo) (z : Value) (size bytes : Nat) (ht : P.underlying t = some (.slice e)) (hi : P.info? e = some i) (hz : i.zero = some z)
    (hsize : i.size = size) (hby : i.bytes = bytes) (hzs : z.cells.size = size) (hsz : 0 < size) (v : Value) (hs : a.eval s = v) (hown : w.ownsRow B e size v 0 (valsI [])) (src : Option Addr) (m c : Nat) (hx : a.eval x = .slice src m c) (zs : List Int)
    (hr : ReadsI w src (m * size) zs) (hn : src = none → c = 0) (hm : m ≤ 1048576) (hbytes : m * bytes ≤ 140737488355328) (hB : B ≤ w.heap.size)
    (h : ∀ v' w', w'.ownsRow B e size v' m (valsI zs) → w.grownBy w' v.ownBlock → K (a.put o.dst v') w') :
    if Region.wanted o (yielded ops a.tmps) = true then Oper.wp P o a w K Q else E := by
  have hw : Region.wanted o (yielded ops a.tmps) = true := by simp [Region.wanted, hg]
  rw [if_pos hw]
  obtain ⟨v', w', hrun, h2, h3⟩ := run_copy (P := P) (w := w) t o.type B e i z size bytes ht hi hz hsize hby hzs hsz v hown src m c zs hr hn hm hbytes hB
  unfold Oper.wp execOp
  simp only [ho, resolve, invoke, builtin, Sem.run_bind, Sem.run_pure, Result.andThen_ok, List.map_toArray, List.map_cons, List.map_nil, hs, hx, hrun]
  exact h v' w' h2 h3

/-- The five cells of a boxed heap. -/
def Box (p : Nat) (v0 v1 v2 v3 v4 : Value) (w : World) : Prop :=
  w.cell? ⟨p, 0, none⟩ = some v0 ∧ w.cell? ⟨p, 1, none⟩ = some v1 ∧ w.cell? ⟨p, 2, none⟩ = some v2 ∧ w.cell? ⟨p, 3, none⟩ = some v3 ∧ w.cell? ⟨p, 4, none⟩ = some v4
theorem Box.kept {p : Nat} {v0 v1 v2 v3 v4 : Value} {w w' : World} {row : Option Nat} (h : Box p v0 v1 v2 v3 v4 w) (hg : w.grownBy w' row) (hne : some p ≠ row) : Box p v0 v1 v2 v3 v4 w' := by
  obtain ⟨h0, h1, h2, h3, h4⟩ := h
  exact ⟨hg.cell h0 hne, hg.cell h1 hne, hg.cell h2 hne, hg.cell h3 hne, hg.cell h4 hne⟩
/-- What is held along the region. -/
structure Along (w u : World) (p p1 : Nat) (v0 v1 v2 v3 v4 : Value) (z : Obj) : Prop where
  grown : w.grownBy u none
  box : Box p v0 v1 v2 v3 v4 u
  zero : u.heap[p1]? = some z
  room : p1 + 1 ≤ u.heap.size
  lt : p < p1
  old : w.heap.size ≤ p1
theorem Along.step {w u u' : World} {p p1 : Nat} {v0 v1 v2 v3 v4 : Value} {z : Obj} {row : Option Nat} (h : Along w u p p1 v0 v1 v2 v3 v4 z) (k : u.grownBy u' row) (hr : row = none ∨ ∃ g, row = some g ∧ p1 + 1 ≤ g) : Along w u' p p1 v0 v1 v2 v3 v4 z := by
  obtain ⟨h1, h2, h3, h4, h5, h6⟩ := h
  have s := k.size
  refine ⟨?_, h2.kept k ?_, (k.block p1 (by omega) ?_).trans h3, by omega, h5, h6⟩
  · rcases hr with rfl | ⟨g, rfl, hg⟩
    · exact grown_trans h1 k
    · exact grown_into h1 k (by omega)
  · rcases hr with rfl | ⟨g, rfl, hg⟩ <;> simp; omega
  · rcases hr with rfl | ⟨g, rfl, hg⟩ <;> simp; omega
theorem own_far {u : World} {B : Nat} {e : TypeId} {size : Nat} {v : Value} {n : Nat} {xs : List Value} (h : u.ownsRow B e size v n xs) : v.ownBlock = none ∨ ∃ g, v.ownBlock = some g ∧ B ≤ g := by
  cases e : v.ownBlock with
  | none => exact .inl rfl
  | some g => exact .inr ⟨g, rfl, (h.lt g e).1⟩
theorem own_type {u : World} {B : Nat} {e : TypeId} {size : Nat} {v : Value} {n : Nat} {xs : List Value} (h : u.ownsRow B e size v n xs) {g : Nat} (hg : v.ownBlock = some g) : ∃ cur, u.heap[g]? = some (.cells cur e (0, 0)) := by
  rcases h.2 with ⟨rfl, _⟩ | ⟨g', cap, cur, rfl, _, hc, _⟩
  · simp [Value.ownBlock] at hg
  · simp [Value.ownBlock] at hg; subst hg; exact ⟨cur, hc⟩
theorem own_ne {u : World} {B B' : Nat} {e e' : TypeId} {size size' : Nat} {v v' : Value} {n n' : Nat} {xs xs' : List Value} (h : u.ownsRow B e size v n xs) (h' : u.ownsRow B' e' size' v' n' xs') (hne : e ≠ e') : v.ownBlock = none ∨ v.ownBlock ≠ v'.ownBlock := by
  cases k : v.ownBlock with
  | none => exact .inl rfl
  | some g =>
    refine .inr (fun k' => ?_)
    obtain ⟨c, hc⟩ := own_type h k
    obtain ⟨c', hc'⟩ := own_type h' k'.symm
    rw [hc] at hc'
    simp at hc'
    exact hne hc'.2
theorem own_none {v : Value} : v.ownBlock = none ∨ v.ownBlock ≠ none := by by_cases h : v.ownBlock = none <;> simp [h]

set_option maxHeartbeats 2000000 in
theorem copyT (n m c d : Nat) (a b : Option Addr) (half low next : Int) (ws ls : List Int) (w : World) (h1 : ReadsI w a n ws) (h2 : ReadsI w b (m * 3) ls) (ha : a = none → c = 0) (hb : b = none → d = 0) (hn : n ≤ 1048576) (hm : m ≤ 1048576) :
    Calls Tryd.prog 20 #[.agg #[.slice a n c, .int .i64 half, .int .i64 low, .int .i64 next, .slice b m d]] w fun e w' => ∃ a' b' c' d' g g', e = .returned (.agg #[.slice a' n c', .int .i64 half, .int .i64 low, .int .i64 next, .slice b' m d']) ∧ w.grownBy w' none ∧ w.heap.size ≤ g ∧ w.heap.size ≤ g' ∧ (n = 0 ∨ g ≠ g') ∧ OwnI w' 3 g a' n ws ∧ LogI w' 65 g' b' m d' ls ∧ n ≤ c' := by
  have h1' : ReadsI w a (n * 1) ws := by simpa using h1
  have HR : Hid (ReadsI w a (n * 1) ws ∧ ReadsI w b (m * 3) ls) := ⟨h1', h2⟩
  obtain ⟨b0, b1, bs⟩ := alloc2_blocks w (.cells #[.slice a n c, .int .i64 half, .int .i64 low, .int .i64 next, .slice b m d] 29) (.cells #[.slice none 0 0, .int .i64 0, .int .i64 0, .int .i64 0, .slice none 0 0] 29)
  have g0 := grown_alloc (grown_alloc (World.grownBy.refl w none) (.cells #[.slice a n c, .int .i64 half, .int .i64 low, .int .i64 next, .slice b m d] 29)) (.cells #[.slice none 0 0, .int .i64 0, .int .i64 0, .int .i64 0, .slice none 0 0] 29)
  have AL0 := (show Along w _ w.heap.size (w.heap.size + 1) _ _ _ _ _ _ from ⟨g0, (five b0).1, b1, by omega, by omega, by omega⟩).step (grown_drew (World.grownBy.refl _ none)) (.inl rfl)
  have AL : Hid _ := AL0
  clear b0 b1 bs g0 h1 h1' h2 AL0
  go_enter Tryd.func20, Tryd.ntmps20
  go_wp2_with fail
  refine wp_region_held_drew (S := Box w.heap.size (.slice a n c) (.int .i64 half) (.int .i64 low) (.int .i64 next) (.slice b m d)) (by kernel_rfl) AL.out.box (fun hH => ?_)
  generalize (World.drew _) = u at *
  generalize hp1 : w.heap.size + 1 = p1 at *
  generalize hp : w.heap.size = p at *
  simp only [List.size_toArray, List.length_cons, List.length_nil, Nat.reduceAdd, Array.replicate, List.replicate]
  refine wpAnyH_take (i := 1) (v := ?_) rfl (by kernel_rfl) (by kernel_rfl) (by kernel_rfl) (fun _ _ _ h => h) (Or.inl ⟨by rfl, ?_⟩) hH ?_
  rotate_left
  · (intro v hS; obtain ⟨s0, s1, s2, s3, s4⟩ := hS; go_simp; try with_reducible rfl)
  simp only [Act.put, List.setIfInBounds_toArray, List.set_cons_zero, List.set_cons_succ, List.getElem_toArray, List.getElem_cons_succ, List.getElem_cons_zero]
  refine wpAnyH_take (i := 2) (v := ?_) rfl (by kernel_rfl) (by kernel_rfl) (by kernel_rfl) (fun _ _ _ h => h) (Or.inl ⟨by rfl, ?_⟩) hH ?_
  rotate_left
  · (intro v hS; obtain ⟨s0, s1, s2, s3, s4⟩ := hS; go_simp; try with_reducible rfl)
  simp only [Act.put, List.setIfInBounds_toArray, List.set_cons_zero, List.set_cons_succ, List.getElem_toArray, List.getElem_cons_succ, List.getElem_cons_zero]
  refine wpAnyH_take (i := 4) (v := ?_) rfl (by kernel_rfl) (by kernel_rfl) (by kernel_rfl) (fun _ _ _ h => h) (Or.inl ⟨by rfl, ?_⟩) hH ?_
  rotate_left
  · (intro v hS; obtain ⟨s0, s1, s2, s3, s4⟩ := hS; go_simp; try with_reducible rfl)
  simp only [Act.put, List.setIfInBounds_toArray, List.set_cons_zero, List.set_cons_succ, List.getElem_toArray, List.getElem_cons_succ, List.getElem_cons_zero]
  refine wpAnyH_take (i := 5) (v := ?_) rfl (by kernel_rfl) (by kernel_rfl) (by kernel_rfl) (fun _ _ _ h => h) (Or.inl ⟨by rfl, ?_⟩) hH ?_
  rotate_left
  · (intro v hS; obtain ⟨s0, s1, s2, s3, s4⟩ := hS; go_simp; try with_reducible rfl)
  simp only [Act.put, List.setIfInBounds_toArray, List.set_cons_zero, List.set_cons_succ, List.getElem_toArray, List.getElem_cons_succ, List.getElem_cons_zero]
  refine wpAnyH_take (i := 6) (v := ?_) rfl (by kernel_rfl) (by kernel_rfl) (by kernel_rfl) (fun _ _ _ h => h) (Or.inl ⟨by rfl, ?_⟩) hH ?_
  rotate_left
  · (intro v hS; obtain ⟨s0, s1, s2, s3, s4⟩ := hS; go_simp; try with_reducible rfl)
  simp only [Act.put, List.setIfInBounds_toArray, List.set_cons_zero, List.set_cons_succ, List.getElem_toArray, List.getElem_cons_succ, List.getElem_cons_zero]
  refine wpAnyH_take (i := 7) (v := ?_) rfl (by kernel_rfl) (by kernel_rfl) (by kernel_rfl) (fun _ _ _ h => h) (Or.inl ⟨by rfl, ?_⟩) hH ?_
  rotate_left
  · (intro v hS; obtain ⟨s0, s1, s2, s3, s4⟩ := hS; go_simp; try with_reducible rfl)
  simp only [Act.put, List.setIfInBounds_toArray, List.set_cons_zero, List.set_cons_succ, List.getElem_toArray, List.getElem_cons_succ, List.getElem_cons_zero]
  refine wpAnyH_take (i := 8) (v := ?_) rfl (by kernel_rfl) (by kernel_rfl) (by kernel_rfl) (fun _ _ _ h => h) (Or.inl ⟨by rfl, ?_⟩) hH ?_
  rotate_left
  · (intro v hS; obtain ⟨s0, s1, s2, s3, s4⟩ := hS; go_simp; try with_reducible rfl)
  simp only [Act.put, List.setIfInBounds_toArray, List.set_cons_zero, List.set_cons_succ, List.getElem_toArray, List.getElem_cons_succ, List.getElem_cons_zero]
  refine wpAnyH_take (i := 9) (v := ?_) rfl (by kernel_rfl) (by kernel_rfl) (by kernel_rfl) (fun _ _ _ h => h) (Or.inl ⟨by rfl, ?_⟩) hH ?_
  rotate_left
  · (intro v hS; obtain ⟨s0, s1, s2, s3, s4⟩ := hS; go_simp; try with_reducible rfl)
  simp only [Act.put, List.setIfInBounds_toArray, List.set_cons_zero, List.set_cons_succ, List.getElem_toArray, List.getElem_cons_succ, List.getElem_cons_zero]
  refine wpAnyH_take (i := 11) (v := ?_) rfl (by kernel_rfl) (by kernel_rfl) (by kernel_rfl) (fun _ _ _ h => h) (Or.inl ⟨by rfl, ?_⟩) hH ?_
  rotate_left
  · (intro v hS; obtain ⟨s0, s1, s2, s3, s4⟩ := hS; go_simp; try with_reducible rfl)
  simp only [Act.put, List.setIfInBounds_toArray, List.set_cons_zero, List.set_cons_succ, List.getElem_toArray, List.getElem_cons_succ, List.getElem_cons_zero]
  refine wpAnyH_take (i := 12) (v := ?_) rfl (by kernel_rfl) (by kernel_rfl) (by kernel_rfl) (fun _ _ _ h => h) (Or.inl ⟨by rfl, ?_⟩) hH ?_
  rotate_left
  · (intro v hS; obtain ⟨s0, s1, s2, s3, s4⟩ := hS; go_simp; try with_reducible rfl)
  simp only [Act.put, List.setIfInBounds_toArray, List.set_cons_zero, List.set_cons_succ, List.getElem_toArray, List.getElem_cons_succ, List.getElem_cons_zero]
  refine wpAnyH_ready (rs := [0, 10]) (by kernel_rfl) (by simp) ?_
  refine AllReadyH.cons rfl (fun K hK => ?_) ?_
  · go_simp
    have ga := World.grownBy_alloc u (.cells #[] 3) none
    have R3 : (u.alloc (.cells #[] 3)).ownsRow (p1 + 1) 3 1 (.slice (some ⟨u.heap.size, 0, none⟩) 0 0) 0 (valsI []) := World.ownsRow_lit u #[] 0 AL.out.room (by simp [maxLen]) (by simp)
    have AN : Hid _ := AL.out.step ga (.inl rfl)
    clear AL hH
    clear ga
    generalize u.alloc (.cells #[] 3) = u' at *
    generalize u.heap.size = q3 at *
    clear u
    rename World => u
    have AL := AN
    clear AN
    refine hK.out _ _ AL.out.box (fun hH => ?_)
    clear hK K
    simp only [Act.put, List.setIfInBounds_toArray, List.set_cons_zero, List.set_cons_succ, List.getElem_toArray, List.getElem_cons_succ, List.getElem_cons_zero]
    refine wpAnyH_ready (rs := [3, 10]) (by kernel_rfl) (by simp) ?_
    refine AllReadyH.cons rfl (fun K hK => ?_) ?_
    · obtain ⟨i0, hi, hz0, hz1, hz2⟩ := info_parts infoI
      refine step_copy rfl (.tmp 3) (.tmp 5) 22 rfl (p1 + 1) 3 i0 (.int .i64 0) 1 8 Tryd.underlying22 hi hz0 hz1 hz2 rfl (by decide) _ rfl R3 a n c rfl ws (HR.out.1.none AL.out.grown) ha hn (by omega) AL.out.room ?_
      intro v6 u' W6 kg
      have AN : Hid _ := AL.out.step kg (own_far R3)
      clear AL hH R3 kg i0 hi hz0 hz1 hz2
      clear u
      rename World => u
      have AL := AN
      clear AN
      refine hK.out _ _ AL.out.box (fun hH => ?_)
      clear hK K
      simp only [Act.put, List.setIfInBounds_toArray, List.set_cons_zero, List.set_cons_succ, List.getElem_toArray, List.getElem_cons_succ, List.getElem_cons_zero]
      refine wpAnyH_ready (rs := [10]) (by kernel_rfl) (by simp) ?_
      refine AllReadyH.cons rfl (fun K hK => ?_) AllReadyH.nil
      go_simp
      have ga := World.grownBy_alloc u (.cells #[] 65) none
      have R13 : (u.alloc (.cells #[] 65)).ownsRow (p1 + 1) 65 3 (.slice (some ⟨u.heap.size, 0, none⟩) 0 0) 0 (valsI []) := World.ownsRow_lit u #[] 0 AL.out.room (by simp [maxLen]) (by simp)
      have AN : Hid _ := AL.out.step ga (.inl rfl)
      have T6 := W6.kept ga own_none
      clear AL hH W6
      have W6 := T6
      clear T6
      clear ga
      generalize u.alloc (.cells #[] 65) = u' at *
      generalize u.heap.size = q13 at *
      clear u
      rename World => u
      have AL := AN
      clear AN
      refine hK.out _ _ AL.out.box (fun hH => ?_)
      clear hK K
      simp only [Act.put, List.setIfInBounds_toArray, List.set_cons_zero, List.set_cons_succ, List.getElem_toArray, List.getElem_cons_succ, List.getElem_cons_zero]
      refine wpAnyH_ready (rs := [13]) (by kernel_rfl) (by simp) ?_
      refine AllReadyH.cons rfl (fun K hK => ?_) AllReadyH.nil
      obtain ⟨i0, hi, hz0, hz1, hz2⟩ := info_parts infoA
      refine step_copy rfl (.tmp 13) (.tmp 15) 27 rfl (p1 + 1) 65 i0 (.agg #[.int .i64 0, .int .i64 0, .int .i64 0]) 3 24 Tryd.underlying27 hi hz0 hz1 hz2 rfl (by decide) _ rfl R13 b m d rfl ls (HR.out.2.none AL.out.grown) hb hm (by omega) AL.out.room ?_
      intro v16 u' W16 kg
      have AN : Hid _ := AL.out.step kg (own_far R13)
      have T6 := W6.kept kg (own_ne W6 R13 (by decide))
      clear AL hH R13 kg i0 hi hz0 hz1 hz2 W6
      have W6 := T6
      clear T6
      clear u
      rename World => u
      have AL := AN
      clear AN
      refine hK.out _ _ AL.out.box (fun hH => ?_)
      clear hK K
      simp only [Act.put, List.setIfInBounds_toArray, List.set_cons_zero, List.set_cons_succ, List.getElem_toArray, List.getElem_cons_succ, List.getElem_cons_zero]
      obtain ⟨a', g, c', rfl, hb1, o1, hc1⟩ := own_of (w0 := u) W6 (by omega)
      obtain ⟨b', g', d', rfl, hb2, o2⟩ := log_of W16
      have o1 : OwnI u 3 g a' n ws := by simpa using o1
      obtain ⟨G, X, Z, s1, s2, s3⟩ := AL.out
      obtain ⟨g', hb2, hne, o2⟩ : ∃ g', p1 + 1 ≤ g' ∧ (n = 0 ∨ g ≠ g') ∧ LogI u 65 g' b' m d' ls := by
        rcases o1.2 with h0 | ⟨off, _, cur, hc, _⟩
        · exact ⟨g', hb2, .inl h0, o2⟩
        · rcases o2.2 with h | ⟨off', cur', hb', hc', r⟩
          · exact ⟨u.heap.size, s1, .inr (by have := lt_of_block hc; omega), o2.1, .inl h⟩
          · refine ⟨g', hb2, .inr (fun e => ?_), o2⟩
            subst e
            rw [hc] at hc'
            simp at hc'
      obtain ⟨d1, k5⟩ := fill5 (.slice a' n c') (.int .i64 half) (.int .i64 low) (.int .i64 next) (.slice b' m d') Z
      have XN : Hid _ := X.kept k5 (by simp; omega)
      have FIN : Hid _ := And.intro (grown_into G k5 (by omega)) (And.intro (o1.kept k5 (by simp; omega)) (And.intro (o2.kept k5 (by simp; omega)) (And.intro hne (And.intro (show w.heap.size ≤ g by omega) (And.intro (show w.heap.size ≤ g' by omega) hc1)))))
      have D1 : Hid _ := d1
      obtain ⟨-, f0, f1, f2, f3, f4⟩ := five Z
      obtain ⟨⟨z0, z1, z2, z3, z4⟩, -⟩ := five Z
      clear W6 W16 AL hb1 o1 hc1 hb2 o2 hne G X Z s1 s2 s3 d1 k5 HR
      refine wpAnyH_take (i := 14) (v := ?_) rfl (by kernel_rfl) (by kernel_rfl) (by kernel_rfl) (fun _ _ _ h => h) (Or.inl ⟨by rfl, ?_⟩) hH ?_
      rotate_left
      · (intro v hS; obtain ⟨s0, s1, s2, s3, s4⟩ := hS; go_simp; try with_reducible rfl)
      simp only [Act.put, List.setIfInBounds_toArray, List.set_cons_zero, List.set_cons_succ, List.getElem_toArray, List.getElem_cons_succ, List.getElem_cons_zero]
      refine wpAnyH_ready (rs := [15]) (by kernel_rfl) (by simp) ?_
      refine AllReadyH.cons rfl (fun K hK => ?_) AllReadyH.nil
      go_simp
      refine hK.out _ _ XN.out (fun hH2 => ?_)
      clear hK K
      refine wpAnyH_done (by kernel_rfl) ?_ _
      go_wp2
      (try simp only [Exit.inBlock, Exit.then])
      refine bodyPost_ret (results_cell_row (P := Tryd.prog) Tryd.results20 _ _ p1 _ _ _ _ rfl D1.out Tryd.underlying29 rfl (by kernel_rfl)) rfl ?_
      obtain ⟨z1, z2, z3, z4, z5, z6, z7⟩ := FIN.out
      exact ⟨a', b', c', d', g, g', rfl, z1, z5, z6, z4, z2, z3, z7⟩
    refine AllReadyH.cons rfl (fun K hK => ?_) AllReadyH.nil
    · go_simp
      have ga := World.grownBy_alloc u (.cells #[] 65) none
      have R13 : (u.alloc (.cells #[] 65)).ownsRow (p1 + 1) 65 3 (.slice (some ⟨u.heap.size, 0, none⟩) 0 0) 0 (valsI []) := World.ownsRow_lit u #[] 0 AL.out.room (by simp [maxLen]) (by simp)
      have AN : Hid _ := AL.out.step ga (.inl rfl)
      have T3 := R3.kept ga own_none
      clear AL hH R3
      have R3 := T3
      clear T3
      clear ga
      generalize u.alloc (.cells #[] 65) = u' at *
      generalize u.heap.size = q13 at *
      clear u
      rename World => u
      have AL := AN
      clear AN
      refine hK.out _ _ AL.out.box (fun hH => ?_)
      clear hK K
      simp only [Act.put, List.setIfInBounds_toArray, List.set_cons_zero, List.set_cons_succ, List.getElem_toArray, List.getElem_cons_succ, List.getElem_cons_zero]
      refine wpAnyH_ready (rs := [3]) (by kernel_rfl) (by simp) ?_
      refine AllReadyH.cons rfl (fun K hK => ?_) AllReadyH.nil
      obtain ⟨i0, hi, hz0, hz1, hz2⟩ := info_parts infoI
      refine step_copy rfl (.tmp 3) (.tmp 5) 22 rfl (p1 + 1) 3 i0 (.int .i64 0) 1 8 Tryd.underlying22 hi hz0 hz1 hz2 rfl (by decide) _ rfl R3 a n c rfl ws (HR.out.1.none AL.out.grown) ha hn (by omega) AL.out.room ?_
      intro v6 u' W6 kg
      have AN : Hid _ := AL.out.step kg (own_far R3)
      have T13 := R13.kept kg (own_ne R13 R3 (by decide))
      clear AL hH R3 kg i0 hi hz0 hz1 hz2 R13
      have R13 := T13
      clear T13
      clear u
      rename World => u
      have AL := AN
      clear AN
      refine hK.out _ _ AL.out.box (fun hH => ?_)
      clear hK K
      simp only [Act.put, List.setIfInBounds_toArray, List.set_cons_zero, List.set_cons_succ, List.getElem_toArray, List.getElem_cons_succ, List.getElem_cons_zero]
      refine wpAnyH_ready (rs := [13]) (by kernel_rfl) (by simp) ?_
      refine AllReadyH.cons rfl (fun K hK => ?_) AllReadyH.nil
      obtain ⟨i0, hi, hz0, hz1, hz2⟩ := info_parts infoA
      refine step_copy rfl (.tmp 13) (.tmp 15) 27 rfl (p1 + 1) 65 i0 (.agg #[.int .i64 0, .int .i64 0, .int .i64 0]) 3 24 Tryd.underlying27 hi hz0 hz1 hz2 rfl (by decide) _ rfl R13 b m d rfl ls (HR.out.2.none AL.out.grown) hb hm (by omega) AL.out.room ?_
      intro v16 u' W16 kg
      have AN : Hid _ := AL.out.step kg (own_far R13)
      have T6 := W6.kept kg (own_ne W6 R13 (by decide))
      clear AL hH R13 kg i0 hi hz0 hz1 hz2 W6
      have W6 := T6
      clear T6
      clear u
      rename World => u
      have AL := AN
      clear AN
      refine hK.out _ _ AL.out.box (fun hH => ?_)
      clear hK K
      simp only [Act.put, List.setIfInBounds_toArray, List.set_cons_zero, List.set_cons_succ, List.getElem_toArray, List.getElem_cons_succ, List.getElem_cons_zero]
      obtain ⟨a', g, c', rfl, hb1, o1, hc1⟩ := own_of (w0 := u) W6 (by omega)
      obtain ⟨b', g', d', rfl, hb2, o2⟩ := log_of W16
      have o1 : OwnI u 3 g a' n ws := by simpa using o1
      obtain ⟨G, X, Z, s1, s2, s3⟩ := AL.out
      obtain ⟨g', hb2, hne, o2⟩ : ∃ g', p1 + 1 ≤ g' ∧ (n = 0 ∨ g ≠ g') ∧ LogI u 65 g' b' m d' ls := by
        rcases o1.2 with h0 | ⟨off, _, cur, hc, _⟩
        · exact ⟨g', hb2, .inl h0, o2⟩
        · rcases o2.2 with h | ⟨off', cur', hb', hc', r⟩
          · exact ⟨u.heap.size, s1, .inr (by have := lt_of_block hc; omega), o2.1, .inl h⟩
          · refine ⟨g', hb2, .inr (fun e => ?_), o2⟩
            subst e
            rw [hc] at hc'
            simp at hc'
      obtain ⟨d1, k5⟩ := fill5 (.slice a' n c') (.int .i64 half) (.int .i64 low) (.int .i64 next) (.slice b' m d') Z
      have XN : Hid _ := X.kept k5 (by simp; omega)
      have FIN : Hid _ := And.intro (grown_into G k5 (by omega)) (And.intro (o1.kept k5 (by simp; omega)) (And.intro (o2.kept k5 (by simp; omega)) (And.intro hne (And.intro (show w.heap.size ≤ g by omega) (And.intro (show w.heap.size ≤ g' by omega) hc1)))))
      have D1 : Hid _ := d1
      obtain ⟨-, f0, f1, f2, f3, f4⟩ := five Z
      obtain ⟨⟨z0, z1, z2, z3, z4⟩, -⟩ := five Z
      clear W6 W16 AL hb1 o1 hc1 hb2 o2 hne G X Z s1 s2 s3 d1 k5 HR
      refine wpAnyH_take (i := 14) (v := ?_) rfl (by kernel_rfl) (by kernel_rfl) (by kernel_rfl) (fun _ _ _ h => h) (Or.inl ⟨by rfl, ?_⟩) hH ?_
      rotate_left
      · (intro v hS; obtain ⟨s0, s1, s2, s3, s4⟩ := hS; go_simp; try with_reducible rfl)
      simp only [Act.put, List.setIfInBounds_toArray, List.set_cons_zero, List.set_cons_succ, List.getElem_toArray, List.getElem_cons_succ, List.getElem_cons_zero]
      refine wpAnyH_ready (rs := [15]) (by kernel_rfl) (by simp) ?_
      refine AllReadyH.cons rfl (fun K hK => ?_) AllReadyH.nil
      go_simp
      refine hK.out _ _ XN.out (fun hH2 => ?_)
      clear hK K
      refine wpAnyH_done (by kernel_rfl) ?_ _
      go_wp2
      (try simp only [Exit.inBlock, Exit.then])
      refine bodyPost_ret (results_cell_row (P := Tryd.prog) Tryd.results20 _ _ p1 _ _ _ _ rfl D1.out Tryd.underlying29 rfl (by kernel_rfl)) rfl ?_
      obtain ⟨z1, z2, z3, z4, z5, z6, z7⟩ := FIN.out
      exact ⟨a', b', c', d', g, g', rfl, z1, z5, z6, z4, z2, z3, z7⟩
  refine AllReadyH.cons rfl (fun K hK => ?_) AllReadyH.nil
  · go_simp
    have ga := World.grownBy_alloc u (.cells #[] 65) none
    have R13 : (u.alloc (.cells #[] 65)).ownsRow (p1 + 1) 65 3 (.slice (some ⟨u.heap.size, 0, none⟩) 0 0) 0 (valsI []) := World.ownsRow_lit u #[] 0 AL.out.room (by simp [maxLen]) (by simp)
    have AN : Hid _ := AL.out.step ga (.inl rfl)
    clear AL hH
    clear ga
    generalize u.alloc (.cells #[] 65) = u' at *
    generalize u.heap.size = q13 at *
    clear u
    rename World => u
    have AL := AN
    clear AN
    refine hK.out _ _ AL.out.box (fun hH => ?_)
    clear hK K
    simp only [Act.put, List.setIfInBounds_toArray, List.set_cons_zero, List.set_cons_succ, List.getElem_toArray, List.getElem_cons_succ, List.getElem_cons_zero]
    refine wpAnyH_ready (rs := [0]) (by kernel_rfl) (by simp) ?_
    refine AllReadyH.cons rfl (fun K hK => ?_) AllReadyH.nil
    go_simp
    have ga := World.grownBy_alloc u (.cells #[] 3) none
    have R3 : (u.alloc (.cells #[] 3)).ownsRow (p1 + 1) 3 1 (.slice (some ⟨u.heap.size, 0, none⟩) 0 0) 0 (valsI []) := World.ownsRow_lit u #[] 0 AL.out.room (by simp [maxLen]) (by simp)
    have AN : Hid _ := AL.out.step ga (.inl rfl)
    have T13 := R13.kept ga own_none
    clear AL hH R13
    have R13 := T13
    clear T13
    clear ga
    generalize u.alloc (.cells #[] 3) = u' at *
    generalize u.heap.size = q3 at *
    clear u
    rename World => u
    have AL := AN
    clear AN
    refine hK.out _ _ AL.out.box (fun hH => ?_)
    clear hK K
    simp only [Act.put, List.setIfInBounds_toArray, List.set_cons_zero, List.set_cons_succ, List.getElem_toArray, List.getElem_cons_succ, List.getElem_cons_zero]
    refine wpAnyH_ready (rs := [3]) (by kernel_rfl) (by simp) ?_
    refine AllReadyH.cons rfl (fun K hK => ?_) AllReadyH.nil
    obtain ⟨i0, hi, hz0, hz1, hz2⟩ := info_parts infoI
    refine step_copy rfl (.tmp 3) (.tmp 5) 22 rfl (p1 + 1) 3 i0 (.int .i64 0) 1 8 Tryd.underlying22 hi hz0 hz1 hz2 rfl (by decide) _ rfl R3 a n c rfl ws (HR.out.1.none AL.out.grown) ha hn (by omega) AL.out.room ?_
    intro v6 u' W6 kg
    have AN : Hid _ := AL.out.step kg (own_far R3)
    have T13 := R13.kept kg (own_ne R13 R3 (by decide))
    clear AL hH R3 kg i0 hi hz0 hz1 hz2 R13
    have R13 := T13
    clear T13
    clear u
    rename World => u
    have AL := AN
    clear AN
    refine hK.out _ _ AL.out.box (fun hH => ?_)
    clear hK K
    simp only [Act.put, List.setIfInBounds_toArray, List.set_cons_zero, List.set_cons_succ, List.getElem_toArray, List.getElem_cons_succ, List.getElem_cons_zero]
    refine wpAnyH_ready (rs := [13]) (by kernel_rfl) (by simp) ?_
    refine AllReadyH.cons rfl (fun K hK => ?_) AllReadyH.nil
    obtain ⟨i0, hi, hz0, hz1, hz2⟩ := info_parts infoA
    refine step_copy rfl (.tmp 13) (.tmp 15) 27 rfl (p1 + 1) 65 i0 (.agg #[.int .i64 0, .int .i64 0, .int .i64 0]) 3 24 Tryd.underlying27 hi hz0 hz1 hz2 rfl (by decide) _ rfl R13 b m d rfl ls (HR.out.2.none AL.out.grown) hb hm (by omega) AL.out.room ?_
    intro v16 u' W16 kg
    have AN : Hid _ := AL.out.step kg (own_far R13)
    have T6 := W6.kept kg (own_ne W6 R13 (by decide))
    clear AL hH R13 kg i0 hi hz0 hz1 hz2 W6
    have W6 := T6
    clear T6
    clear u
    rename World => u
    have AL := AN
    clear AN
    refine hK.out _ _ AL.out.box (fun hH => ?_)
    clear hK K
    simp only [Act.put, List.setIfInBounds_toArray, List.set_cons_zero, List.set_cons_succ, List.getElem_toArray, List.getElem_cons_succ, List.getElem_cons_zero]
    obtain ⟨a', g, c', rfl, hb1, o1, hc1⟩ := own_of (w0 := u) W6 (by omega)
    obtain ⟨b', g', d', rfl, hb2, o2⟩ := log_of W16
    have o1 : OwnI u 3 g a' n ws := by simpa using o1
    obtain ⟨G, X, Z, s1, s2, s3⟩ := AL.out
    obtain ⟨g', hb2, hne, o2⟩ : ∃ g', p1 + 1 ≤ g' ∧ (n = 0 ∨ g ≠ g') ∧ LogI u 65 g' b' m d' ls := by
      rcases o1.2 with h0 | ⟨off, _, cur, hc, _⟩
      · exact ⟨g', hb2, .inl h0, o2⟩
      · rcases o2.2 with h | ⟨off', cur', hb', hc', r⟩
        · exact ⟨u.heap.size, s1, .inr (by have := lt_of_block hc; omega), o2.1, .inl h⟩
        · refine ⟨g', hb2, .inr (fun e => ?_), o2⟩
          subst e
          rw [hc] at hc'
          simp at hc'
    obtain ⟨d1, k5⟩ := fill5 (.slice a' n c') (.int .i64 half) (.int .i64 low) (.int .i64 next) (.slice b' m d') Z
    have XN : Hid _ := X.kept k5 (by simp; omega)
    have FIN : Hid _ := And.intro (grown_into G k5 (by omega)) (And.intro (o1.kept k5 (by simp; omega)) (And.intro (o2.kept k5 (by simp; omega)) (And.intro hne (And.intro (show w.heap.size ≤ g by omega) (And.intro (show w.heap.size ≤ g' by omega) hc1)))))
    have D1 : Hid _ := d1
    obtain ⟨-, f0, f1, f2, f3, f4⟩ := five Z
    obtain ⟨⟨z0, z1, z2, z3, z4⟩, -⟩ := five Z
    clear W6 W16 AL hb1 o1 hc1 hb2 o2 hne G X Z s1 s2 s3 d1 k5 HR
    refine wpAnyH_take (i := 14) (v := ?_) rfl (by kernel_rfl) (by kernel_rfl) (by kernel_rfl) (fun _ _ _ h => h) (Or.inl ⟨by rfl, ?_⟩) hH ?_
    rotate_left
    · (intro v hS; obtain ⟨s0, s1, s2, s3, s4⟩ := hS; go_simp; try with_reducible rfl)
    simp only [Act.put, List.setIfInBounds_toArray, List.set_cons_zero, List.set_cons_succ, List.getElem_toArray, List.getElem_cons_succ, List.getElem_cons_zero]
    refine wpAnyH_ready (rs := [15]) (by kernel_rfl) (by simp) ?_
    refine AllReadyH.cons rfl (fun K hK => ?_) AllReadyH.nil
    go_simp
    refine hK.out _ _ XN.out (fun hH2 => ?_)
    clear hK K
    refine wpAnyH_done (by kernel_rfl) ?_ _
    go_wp2
    (try simp only [Exit.inBlock, Exit.then])
    refine bodyPost_ret (results_cell_row (P := Tryd.prog) Tryd.results20 _ _ p1 _ _ _ _ rfl D1.out Tryd.underlying29 rfl (by kernel_rfl)) rfl ?_
    obtain ⟨z1, z2, z3, z4, z5, z6, z7⟩ := FIN.out
    exact ⟨a', b', c', d', g, g', rfl, z1, z5, z6, z4, z2, z3, z7⟩
end Go.Proofs.YtonmcndedbmbfabDoor.By
