/-
  The contracts of note and of the specification's l2log, for this seat's proofs. No statement is proved here.
-/
import Derived.Test.YtonmcndedbmbfaaDoorHPush
namespace Go.Proofs.YtonmcndedbmbfaaDoor.By
open Go.RowKit
set_option linter.unusedVariables false
set_option linter.unusedSimpArgs false

/-- What a log is behind an access more: of more than 4000 the oldest goes. -/
def pushM (m : Nat) : Nat := if m = 4000 then 4000 else m + 1
def pushL (m : Nat) (ls : List Int) (x y v : Int) : List Int := (if m = 4000 then ls.drop 3 else ls) ++ [x, y, v]
/-- Of what was there the blocks p and g alone may have turned. -/
def Turns (w w' : World) (p g : Nat) : Prop := w.heap.size ≤ w'.heap.size ∧ w'.os = w.os ∧ w'.tape = w.tape ∧ w'.output = w.output ∧ ∀ k, k < w.heap.size → k ≠ p → k ≠ g → w'.heap[k]? = w.heap[k]?
theorem Turns.of {w w' : World} {p g : Nat} {row : Option Nat} (h : w.grownBy w' row) (hr : row = none ∨ row = some p ∨ row = some g) : Turns w w' p g :=
  ⟨h.size, h.os, h.tape, h.output, fun k hk h1 h2 => h.block k hk (by rcases hr with rfl | rfl | rfl <;> simp <;> assumption)⟩
theorem Turns.trans {w w' w'' : World} {p g : Nat} (h : Turns w w' p g) (h' : Turns w' w'' p g) : Turns w w'' p g :=
  ⟨Nat.le_trans h.1 h'.1, h'.2.1.trans h.2.1, h'.2.2.1.trans h.2.2.1, h'.2.2.2.1.trans h.2.2.2.1, fun k hk h1 h2 => (h'.2.2.2.2 k (Nat.lt_of_lt_of_le hk h.1) h1 h2).trans (h.2.2.2.2 k hk h1 h2)⟩
theorem Turns.grown {v w w' : World} {p g : Nat} (h : Turns w w' p g) (hv : v.grownBy w none) (h1 : v.heap.size ≤ p) (h2 : v.heap.size ≤ g) : v.grownBy w' none :=
  ⟨h.2.1.trans hv.os, h.2.2.1.trans hv.tape, h.2.2.2.1.trans hv.output, Nat.le_trans hv.size h.1, fun k hk _ => (h.2.2.2.2 k (Nat.lt_of_lt_of_le hk hv.size) (by omega) (by omega)).trans (hv.block k hk (by simp))⟩
theorem Turns.row {w w' : World} {p g : Nat} (h : Turns w w' p g) {t : TypeId} {r off : Nat} {zs : List Int} (o : RowAt w t r off zs) (h1 : r ≠ p) (h2 : r ≠ g) : RowAt w' t r off zs := by
  have e := h.2.2.2.2 r o.lt h1 h2
  obtain ⟨cur, hc, q⟩ := o
  exact ⟨cur, by rw [e]; exact hc, q⟩
theorem Turns.cell {w w' : World} {p g : Nat} (h : Turns w w' p g) {a : Addr} {v : Value} (hc : w.cell? a = some v) (h1 : a.block ≠ p) (h2 : a.block ≠ g) : w'.cell? a = some v := by
  rw [World.cell?_of_block (h.2.2.2.2 a.block (block_lt_of_cell hc) h1 h2)]; exact hc
theorem LogI.tail {w : World} {t : TypeId} {g m d off : Nat} {ls : List Int} (h : LogI w t g (some ⟨g, off, none⟩) (m + 1) d ls) : LogI w t g (some ⟨g, off + 3, none⟩) m (d - 1) (ls.drop 3) := by
  obtain ⟨hl, h⟩ := h
  refine ⟨by simp [hl]; omega, ?_⟩
  rcases h with ⟨h, _⟩ | ⟨off', cur, h, hg, hm, hd, hs, hc⟩
  · cases h
  · simp only [Option.some.injEq, Addr.mk.injEq, and_true, true_and] at h
    subst h
    refine .inr ⟨off + 3, cur, rfl, hg, by omega, by omega, by omega, fun i hi => ?_⟩
    have := hc (3 + i) (by omega)
    rw [← Nat.add_assoc] at this
    rw [this]
    simp [List.getD_eq_getElem?_getD, List.getElem?_drop]
theorem three_new (w : World) (t : TypeId) (x y v : Int) : ∀ j u, (valsI [x, y, v])[j]? = some u → (w.alloc (.cells #[.int .i64 x, .int .i64 y, .int .i64 v] t)).cell? ((⟨w.heap.size, 0, none⟩ : Addr).add j) = some u := by
  intro j u hu
  rw [Go.WideShapes.add_plain, cell_of_row _ _ _ _ t (0, 0) (heap_alloc_new w _)]
  rcases j with _ | _ | _ | j
  all_goals simp [valsI] at hu
  all_goals (subst hu; rfl)
/-- Two cells of a boxed heap. -/
def Two (p : Nat) (low next : Int) (w : World) : Prop := w.cell? ⟨p, 2, none⟩ = some (.int .i64 low) ∧ w.cell? ⟨p, 3, none⟩ = some (.int .i64 next)
theorem Two.kept {p : Nat} {low next : Int} {w w' : World} {row : Option Nat} (h : Two p low next w) (hg : w.grownBy w' row) (hne : some p ≠ row) : Two p low next w' := ⟨hg.cell h.1 hne, hg.cell h.2 hne⟩
theorem results_none {P : Program} {fn : Func} (h : fn.results = #[]) (tmps : Array Value) (w : World) : (results fn tmps).run P w = .ok (.tuple #[]) w := by simp [results, h]
theorem blk0 {w w' : World} {p : Nat} {o : Obj} (k : w.grownBy w' none) (h : w.heap[p]? = some o) : w'.heap[p]? = some o := (k.block p (lt_of_block h) (by simp)).trans h

set_option maxHeartbeats 2000000 in
theorem note1 (p n m c d g : Nat) (a b : Option Addr) (half low next x : Int) (ls : List Int) (w : World) (hp : w.heap[p]? = some (.cells #[.slice a n c, .int .i64 half, .int .i64 low, .int .i64 next, .slice b m d] 26 (0, 0))) (hl : LogI w 59 g b m d ls) (hm : m < 4000) (hgp : g ≠ p) :
    Calls Tryd.prog 48 #[.pointer (some ⟨p, 0, none⟩), .int .i64 x] w fun e w' => e = .returned (.tuple #[]) ∧ ∃ b' d' g', w'.heap[p]? = some (.cells #[.slice a n c, .int .i64 half, .int .i64 low, .int .i64 next, .slice b' (m + 1) d'] 26 (0, 0)) ∧ LogI w' 59 g' b' (m + 1) d' (ls ++ [x, low, next]) ∧ (g' = g ∨ w.heap.size ≤ g') ∧ Turns w w' p g := by
  have HP0 : Hid _ := And.intro hp hl
  obtain ⟨⟨v0, v1, v2, v3, v4⟩, -⟩ := five hp
  have q1 : ¬ ((m : Int) = 4000) := by omega
  clear hp hl
  go_enter Tryd.func48, Tryd.ntmps48
  go_wp2_with fail
  obtain ⟨hp, hl⟩ := HP0.out
  have T0 : Turns w w p g := Turns.of (World.grownBy.refl w none) (.inl rfl)
  clear HP0 v0 v1 v2 v3 v4
  have BX : Hid (Two p low next w.drew) := ⟨(five hp).1.2.2.1, (five hp).1.2.2.2.1⟩
  have gd := grown_drew (World.grownBy.refl w none)
  have HP : Hid _ := And.intro (blk0 gd hp) (And.intro (hl.kept gd (by simp)) (And.intro (T0.trans (Turns.of gd (.inl rfl))) (Nat.le_trans T0.1 gd.size)))
  clear hp hl T0 gd
  refine wp_region_held_drew (S := Two p low next) (by kernel_rfl) BX.out (fun hH => ?_)
  clear BX
  generalize w.drew = u' at *
  rename World => u
  simp only [List.size_toArray, List.length_cons, List.length_nil, Nat.reduceAdd, Array.replicate, List.replicate]
  refine wpAnyH_take (i := 0) (v := ?_) rfl (by kernel_rfl) (by kernel_rfl) (by kernel_rfl) (fun _ _ _ h => h) (Or.inl ⟨by rfl, ?_⟩) hH ?_
  rotate_left
  · (intro v hS; obtain ⟨s2, s3⟩ := hS; go_simp; try with_reducible rfl)
  simp only [Act.put, List.setIfInBounds_toArray, List.set_cons_zero, List.set_cons_succ, List.getElem_toArray, List.getElem_cons_succ, List.getElem_cons_zero]
  refine wpAnyH_take (i := 1) (v := ?_) rfl (by kernel_rfl) (by kernel_rfl) (by kernel_rfl) (fun _ _ _ h => h) (Or.inl ⟨by rfl, ?_⟩) hH ?_
  rotate_left
  · (intro v hS; obtain ⟨s2, s3⟩ := hS; go_simp; try with_reducible rfl)
  simp only [Act.put, List.setIfInBounds_toArray, List.set_cons_zero, List.set_cons_succ, List.getElem_toArray, List.getElem_cons_succ, List.getElem_cons_zero]
  refine wpAnyH_take (i := 2) (v := ?_) rfl (by kernel_rfl) (by kernel_rfl) (by kernel_rfl) (fun _ _ _ h => h) (Or.inl ⟨by rfl, ?_⟩) hH ?_
  rotate_left
  · (intro v hS; obtain ⟨s2, s3⟩ := hS; go_simp; try with_reducible rfl)
  simp only [Act.put, List.setIfInBounds_toArray, List.set_cons_zero, List.set_cons_succ, List.getElem_toArray, List.getElem_cons_succ, List.getElem_cons_zero]
  refine wpAnyH_take (i := 3) (v := ?_) rfl (by kernel_rfl) (by kernel_rfl) (by kernel_rfl) (fun _ _ _ h => h) (Or.inl ⟨by rfl, ?_⟩) hH ?_
  rotate_left
  · (intro v hS; obtain ⟨s2, s3⟩ := hS; go_simp; try with_reducible rfl)
  simp only [Act.put, List.setIfInBounds_toArray, List.set_cons_zero, List.set_cons_succ, List.getElem_toArray, List.getElem_cons_succ, List.getElem_cons_zero]
  refine wpAnyH_take (i := 5) (v := ?_) rfl (by kernel_rfl) (by kernel_rfl) (by kernel_rfl) (fun _ _ _ h => h) (Or.inl ⟨by rfl, ?_⟩) hH ?_
  rotate_left
  · (intro v hS; obtain ⟨s2, s3⟩ := hS; go_simp; try with_reducible rfl)
  simp only [Act.put, List.setIfInBounds_toArray, List.set_cons_zero, List.set_cons_succ, List.getElem_toArray, List.getElem_cons_succ, List.getElem_cons_zero]
  refine wpAnyH_take (i := 6) (v := ?_) rfl (by kernel_rfl) (by kernel_rfl) (by kernel_rfl) (fun _ _ _ h => h) (Or.inl ⟨by rfl, ?_⟩) hH ?_
  rotate_left
  · (intro v hS; obtain ⟨s2, s3⟩ := hS; go_simp; try with_reducible rfl)
  simp only [Act.put, List.setIfInBounds_toArray, List.set_cons_zero, List.set_cons_succ, List.getElem_toArray, List.getElem_cons_succ, List.getElem_cons_zero]
  refine wpAnyH_take (i := 7) (v := ?_) rfl (by kernel_rfl) (by kernel_rfl) (by kernel_rfl) (fun _ _ _ h => h) (Or.inl ⟨by rfl, ?_⟩) hH ?_
  rotate_left
  · (intro v hS; obtain ⟨s2, s3⟩ := hS; go_simp; try with_reducible rfl)
  simp only [Act.put, List.setIfInBounds_toArray, List.set_cons_zero, List.set_cons_succ, List.getElem_toArray, List.getElem_cons_succ, List.getElem_cons_zero]
  refine wpAnyH_take (i := 8) (v := ?_) rfl (by kernel_rfl) (by kernel_rfl) (by kernel_rfl) (fun _ _ _ h => h) (Or.inl ⟨by rfl, ?_⟩) hH ?_
  rotate_left
  · (intro v hS; obtain ⟨s2, s3⟩ := hS; go_simp; try with_reducible rfl)
  simp only [Act.put, List.setIfInBounds_toArray, List.set_cons_zero, List.set_cons_succ, List.getElem_toArray, List.getElem_cons_succ, List.getElem_cons_zero]
  refine wpAnyH_take (i := 9) (v := ?_) rfl (by kernel_rfl) (by kernel_rfl) (by kernel_rfl) (fun _ _ _ h => h) (Or.inl ⟨by rfl, ?_⟩) hH ?_
  rotate_left
  · (intro v hS; obtain ⟨s2, s3⟩ := hS; go_simp; try with_reducible rfl)
  simp only [Act.put, List.setIfInBounds_toArray, List.set_cons_zero, List.set_cons_succ, List.getElem_toArray, List.getElem_cons_succ, List.getElem_cons_zero]
  refine wpAnyH_take (i := 10) (v := ?_) rfl (by kernel_rfl) (by kernel_rfl) (by kernel_rfl) (fun _ _ _ h => h) (Or.inl ⟨by rfl, ?_⟩) hH ?_
  rotate_left
  · (intro v hS; obtain ⟨s2, s3⟩ := hS; go_simp; try with_reducible rfl)
  simp only [Act.put, List.setIfInBounds_toArray, List.set_cons_zero, List.set_cons_succ, List.getElem_toArray, List.getElem_cons_succ, List.getElem_cons_zero]
  refine wpAnyH_take (i := 11) (v := ?_) rfl (by kernel_rfl) (by kernel_rfl) (by kernel_rfl) (fun _ _ _ h => h) (Or.inl ⟨by rfl, ?_⟩) hH ?_
  rotate_left
  · (intro v hS; obtain ⟨s2, s3⟩ := hS; go_simp; try with_reducible rfl)
  simp only [Act.put, List.setIfInBounds_toArray, List.set_cons_zero, List.set_cons_succ, List.getElem_toArray, List.getElem_cons_succ, List.getElem_cons_zero]
  refine wpAnyH_take (i := 12) (v := ?_) rfl (by kernel_rfl) (by kernel_rfl) (by kernel_rfl) (fun _ _ _ h => h) (Or.inl ⟨by rfl, ?_⟩) hH ?_
  rotate_left
  · (intro v hS; obtain ⟨s2, s3⟩ := hS; go_simp; try with_reducible rfl)
  simp only [Act.put, List.setIfInBounds_toArray, List.set_cons_zero, List.set_cons_succ, List.getElem_toArray, List.getElem_cons_succ, List.getElem_cons_zero]
  refine wpAnyH_take (i := 13) (v := ?_) rfl (by kernel_rfl) (by kernel_rfl) (by kernel_rfl) (fun _ _ _ h => h) (Or.inl ⟨by rfl, ?_⟩) hH ?_
  rotate_left
  · (intro v hS; obtain ⟨s2, s3⟩ := hS; go_simp; try with_reducible rfl)
  simp only [Act.put, List.setIfInBounds_toArray, List.set_cons_zero, List.set_cons_succ, List.getElem_toArray, List.getElem_cons_succ, List.getElem_cons_zero]
  refine wpAnyH_take (i := 14) (v := ?_) rfl (by kernel_rfl) (by kernel_rfl) (by kernel_rfl) (fun _ _ _ h => h) (Or.inl ⟨by rfl, ?_⟩) hH ?_
  rotate_left
  · (intro v hS; obtain ⟨s2, s3⟩ := hS; go_simp; try with_reducible rfl)
  simp only [Act.put, List.setIfInBounds_toArray, List.set_cons_zero, List.set_cons_succ, List.getElem_toArray, List.getElem_cons_succ, List.getElem_cons_zero]
  refine wpAnyH_ready (rs := [4, 15]) (by kernel_rfl) (by simp) ?_
  refine AllReadyH.cons rfl (fun K hK => ?_) (AllReadyH.cons rfl (fun K hK => ?_) AllReadyH.nil)
  · have v4 := (five HP.out.1).1.2.2.2.2
    go_simp
    clear v4
    refine hK.out _ _ hH (fun hH0 => ?_)
    clear hK K hH0
    simp only [Act.put, List.setIfInBounds_toArray, List.set_cons_zero, List.set_cons_succ, List.getElem_toArray, List.getElem_cons_succ, List.getElem_cons_zero]
    refine wpAnyH_ready (rs := [15]) (by kernel_rfl) (by simp) ?_
    refine AllReadyH.cons rfl (fun K hK => ?_) AllReadyH.nil
    go_simp
    obtain ⟨hp, hl, T0, S0⟩ := HP.out
    have ga := World.grownBy_alloc u (.cells #[.int .i64 x, .int .i64 low, .int .i64 next] 59) none
    have NEW : Hid _ := three_new u 59 x low next
    have HQ : Hid _ := And.intro (blk0 ga hp) (And.intro (hl.kept ga (by simp)) (And.intro (T0.trans (Turns.of ga (.inl rfl))) (Nat.le_trans S0 ga.size)))
    have HH := hH.kept ga (by simp)
    clear HP hp hl T0 S0 ga hH
    refine hK.out _ _ HH (fun hH => ?_)
    clear hK K HH
    have HP := HQ
    clear HQ
    generalize u.alloc (.cells #[.int .i64 x, .int .i64 low, .int .i64 next] 59) = u' at *
    generalize u.heap.size = q at *
    clear u
    rename World => u
    simp only [Act.put, List.setIfInBounds_toArray, List.set_cons_zero, List.set_cons_succ, List.getElem_toArray, List.getElem_cons_succ, List.getElem_cons_zero]
    refine wpAnyH_ready (rs := [16]) (by kernel_rfl) (by simp) ?_
    refine AllReadyH.cons rfl (fun K hK => ?_) AllReadyH.nil
    obtain ⟨hp, hl, T0, S0⟩ := HP.out
    obtain ⟨i0, hi, hz0, hz1, hz2⟩ := info_parts infoA
    refine step_push rfl (.tmp 22) (.tmp 33) 24 rfl 59 i0 (.agg #[.int .i64 0, .int .i64 0, .int .i64 0]) Tryd.underlying24 hi hz0 hz1 hz2 rfl g m d b ls rfl hl (by omega) ⟨q, 0, none⟩ rfl x low next NEW.out ?_
    intro b' d' g' u' hg' hl' kg
    have hp' := (kg.block p (lt_of_block hp) (by simp; omega)).trans hp
    have HQ : Hid _ := And.intro hp' (And.intro hl' (And.intro (T0.trans (Turns.of kg (.inr (.inr rfl)))) (show g' = g ∨ w.heap.size ≤ g' by omega)))
    have HH := hH.kept kg (by simp; omega)
    have gp' : g' ≠ p := by have := lt_of_block hp; omega
    clear HP NEW hp hl T0 S0 hg' hl' kg hp' hH hi hz0 hz1 hz2 i0
    refine hK.out _ _ HH (fun hH => ?_)
    clear hK K HH
    clear u
    rename World => u
    simp only [Act.put, List.setIfInBounds_toArray, List.set_cons_zero, List.set_cons_succ, List.getElem_toArray, List.getElem_cons_succ, List.getElem_cons_zero]
    refine wpAnyH_take (i := 17) (v := ?_) rfl (by kernel_rfl) (by kernel_rfl) (by kernel_rfl) (fun _ _ _ h => h) (Or.inl ⟨by rfl, ?_⟩) hH ?_
    rotate_left
    · (intro v hS; obtain ⟨s2, s3⟩ := hS; go_simp; try with_reducible rfl)
    simp only [Act.put, List.setIfInBounds_toArray, List.set_cons_zero, List.set_cons_succ, List.getElem_toArray, List.getElem_cons_succ, List.getElem_cons_zero]
    refine wpAnyH_take (i := 18) (v := ?_) rfl (by kernel_rfl) (by kernel_rfl) (by kernel_rfl) (fun _ _ _ h => h) (Or.inl ⟨by rfl, ?_⟩) hH ?_
    rotate_left
    · (intro v hS; obtain ⟨s2, s3⟩ := hS; go_simp; try with_reducible rfl)
    simp only [Act.put, List.setIfInBounds_toArray, List.set_cons_zero, List.set_cons_succ, List.getElem_toArray, List.getElem_cons_succ, List.getElem_cons_zero]
    obtain ⟨hp, hl, T0, S0⟩ := HQ.out
    obtain ⟨⟨z0, z1, z2, z3, z4⟩, f0, f1, f2, f3, f4⟩ := five hp
    have kg := grown_setCell u p 4 (.slice b' (m + 1) d')
    have hp' := heap_setCell_same u p 4 _ 26 (.slice b' (m + 1) d') hp
    have HH : Hid (Two p low next (u.setCell ⟨p, 4, none⟩ (.slice b' (m + 1) d'))) := ⟨(five hp').1.2.2.1, (five hp').1.2.2.2.1⟩
    have FIN : Hid _ := And.intro hp' (And.intro (hl.kept kg (by simp; omega)) (And.intro (T0.trans (Turns.of kg (.inr (.inl rfl)))) S0))
    clear HQ hp hl T0 S0 kg hp' hH
    refine wpAnyH_ready (rs := [19]) (by kernel_rfl) (by simp) ?_
    refine AllReadyH.cons rfl (fun K hK => ?_) AllReadyH.nil
    go_simp
    refine hK.out _ _ HH.out (fun _ => ?_)
    clear hK K
    refine wpAnyH_done (by kernel_rfl) ?_ _
    (try go_wp2)
    (try simp only [Exit.inBlock, Exit.then])
    refine bodyPost_end (results_none (P := Tryd.prog) Tryd.results48 _ _) rfl ?_
    obtain ⟨y1, y2, y3, y4⟩ := FIN.out
    exact ⟨rfl, b', d', g', y1, y2, y4, y3⟩
  · go_simp
    obtain ⟨hp, hl, T0, S0⟩ := HP.out
    have ga := World.grownBy_alloc u (.cells #[.int .i64 x, .int .i64 low, .int .i64 next] 59) none
    have NEW : Hid _ := three_new u 59 x low next
    have HQ : Hid _ := And.intro (blk0 ga hp) (And.intro (hl.kept ga (by simp)) (And.intro (T0.trans (Turns.of ga (.inl rfl))) (Nat.le_trans S0 ga.size)))
    have HH := hH.kept ga (by simp)
    clear HP hp hl T0 S0 ga hH
    refine hK.out _ _ HH (fun hH => ?_)
    clear hK K HH
    have HP := HQ
    clear HQ
    generalize u.alloc (.cells #[.int .i64 x, .int .i64 low, .int .i64 next] 59) = u' at *
    generalize u.heap.size = q at *
    clear u
    rename World => u
    simp only [Act.put, List.setIfInBounds_toArray, List.set_cons_zero, List.set_cons_succ, List.getElem_toArray, List.getElem_cons_succ, List.getElem_cons_zero]
    refine wpAnyH_ready (rs := [4]) (by kernel_rfl) (by simp) ?_
    refine AllReadyH.cons rfl (fun K hK => ?_) AllReadyH.nil
    have v4 := (five HP.out.1).1.2.2.2.2
    go_simp
    clear v4
    refine hK.out _ _ hH (fun hH0 => ?_)
    clear hK K hH0
    simp only [Act.put, List.setIfInBounds_toArray, List.set_cons_zero, List.set_cons_succ, List.getElem_toArray, List.getElem_cons_succ, List.getElem_cons_zero]
    refine wpAnyH_ready (rs := [16]) (by kernel_rfl) (by simp) ?_
    refine AllReadyH.cons rfl (fun K hK => ?_) AllReadyH.nil
    obtain ⟨hp, hl, T0, S0⟩ := HP.out
    obtain ⟨i0, hi, hz0, hz1, hz2⟩ := info_parts infoA
    refine step_push rfl (.tmp 22) (.tmp 33) 24 rfl 59 i0 (.agg #[.int .i64 0, .int .i64 0, .int .i64 0]) Tryd.underlying24 hi hz0 hz1 hz2 rfl g m d b ls rfl hl (by omega) ⟨q, 0, none⟩ rfl x low next NEW.out ?_
    intro b' d' g' u' hg' hl' kg
    have hp' := (kg.block p (lt_of_block hp) (by simp; omega)).trans hp
    have HQ : Hid _ := And.intro hp' (And.intro hl' (And.intro (T0.trans (Turns.of kg (.inr (.inr rfl)))) (show g' = g ∨ w.heap.size ≤ g' by omega)))
    have HH := hH.kept kg (by simp; omega)
    have gp' : g' ≠ p := by have := lt_of_block hp; omega
    clear HP NEW hp hl T0 S0 hg' hl' kg hp' hH hi hz0 hz1 hz2 i0
    refine hK.out _ _ HH (fun hH => ?_)
    clear hK K HH
    clear u
    rename World => u
    simp only [Act.put, List.setIfInBounds_toArray, List.set_cons_zero, List.set_cons_succ, List.getElem_toArray, List.getElem_cons_succ, List.getElem_cons_zero]
    refine wpAnyH_take (i := 17) (v := ?_) rfl (by kernel_rfl) (by kernel_rfl) (by kernel_rfl) (fun _ _ _ h => h) (Or.inl ⟨by rfl, ?_⟩) hH ?_
    rotate_left
    · (intro v hS; obtain ⟨s2, s3⟩ := hS; go_simp; try with_reducible rfl)
    simp only [Act.put, List.setIfInBounds_toArray, List.set_cons_zero, List.set_cons_succ, List.getElem_toArray, List.getElem_cons_succ, List.getElem_cons_zero]
    refine wpAnyH_take (i := 18) (v := ?_) rfl (by kernel_rfl) (by kernel_rfl) (by kernel_rfl) (fun _ _ _ h => h) (Or.inl ⟨by rfl, ?_⟩) hH ?_
    rotate_left
    · (intro v hS; obtain ⟨s2, s3⟩ := hS; go_simp; try with_reducible rfl)
    simp only [Act.put, List.setIfInBounds_toArray, List.set_cons_zero, List.set_cons_succ, List.getElem_toArray, List.getElem_cons_succ, List.getElem_cons_zero]
    obtain ⟨hp, hl, T0, S0⟩ := HQ.out
    obtain ⟨⟨z0, z1, z2, z3, z4⟩, f0, f1, f2, f3, f4⟩ := five hp
    have kg := grown_setCell u p 4 (.slice b' (m + 1) d')
    have hp' := heap_setCell_same u p 4 _ 26 (.slice b' (m + 1) d') hp
    have HH : Hid (Two p low next (u.setCell ⟨p, 4, none⟩ (.slice b' (m + 1) d'))) := ⟨(five hp').1.2.2.1, (five hp').1.2.2.2.1⟩
    have FIN : Hid _ := And.intro hp' (And.intro (hl.kept kg (by simp; omega)) (And.intro (T0.trans (Turns.of kg (.inr (.inl rfl)))) S0))
    clear HQ hp hl T0 S0 kg hp' hH
    refine wpAnyH_ready (rs := [19]) (by kernel_rfl) (by simp) ?_
    refine AllReadyH.cons rfl (fun K hK => ?_) AllReadyH.nil
    go_simp
    refine hK.out _ _ HH.out (fun _ => ?_)
    clear hK K
    refine wpAnyH_done (by kernel_rfl) ?_ _
    (try go_wp2)
    (try simp only [Exit.inBlock, Exit.then])
    refine bodyPost_end (results_none (P := Tryd.prog) Tryd.results48 _ _) rfl ?_
    obtain ⟨y1, y2, y3, y4⟩ := FIN.out
    exact ⟨rfl, b', d', g', y1, y2, y4, y3⟩

set_option maxHeartbeats 2000000 in
theorem note2 (p n c d g off : Nat) (a : Option Addr) (half low next x : Int) (ls : List Int) (w : World) (hp : w.heap[p]? = some (.cells #[.slice a n c, .int .i64 half, .int .i64 low, .int .i64 next, .slice (some ⟨g, off, none⟩) 4000 d] 26 (0, 0))) (hl : LogI w 59 g (some ⟨g, off, none⟩) 4000 d ls) (hgp : g ≠ p) :
    Calls Tryd.prog 48 #[.pointer (some ⟨p, 0, none⟩), .int .i64 x] w fun e w' => e = .returned (.tuple #[]) ∧ ∃ b' d' g', w'.heap[p]? = some (.cells #[.slice a n c, .int .i64 half, .int .i64 low, .int .i64 next, .slice b' (3999 + 1) d'] 26 (0, 0)) ∧ LogI w' 59 g' b' (3999 + 1) d' (ls.drop 3 ++ [x, low, next]) ∧ (g' = g ∨ w.heap.size ≤ g') ∧ Turns w w' p g := by
  have hd : 4000 ≤ d := hl.le
  have i1 : (1 : Int) ≤ (d : Int) := by omega
  have i3 : ¬ d = 1 := by omega
  have kg := grown_setCell w p 4 (.slice (some ⟨g, off + 3, none⟩) 3999 (d - 1))
  have hp' := heap_setCell_same w p 4 _ 26 (.slice (some ⟨g, off + 3, none⟩) 3999 (d - 1)) hp
  have HP0 : Hid _ := And.intro hp' (And.intro (hl.tail.kept kg (by simp; omega)) (Turns.of kg (.inr (.inl rfl)) : Turns w _ p g))
  obtain ⟨⟨v0, v1, v2, v3, v4⟩, f0, f1, f2, f3, f4⟩ := five hp
  clear hp hl kg hp'
  go_enter Tryd.func48, Tryd.ntmps48
  go_wp2_with fail
  obtain ⟨hp, hl, T0⟩ := HP0.out
  clear HP0 v0 v1 v2 v3 v4 f0 f1 f2 f3 f4 i1 i3
  generalize w.setCell ⟨p, 4, none⟩ (.slice (some ⟨g, off + 3, none⟩) 3999 (d - 1)) = u0 at *
  have BX : Hid (Two p low next u0.drew) := ⟨(five hp).1.2.2.1, (five hp).1.2.2.2.1⟩
  have gd := grown_drew (World.grownBy.refl u0 none)
  have HP : Hid _ := And.intro (blk0 gd hp) (And.intro (hl.kept gd (by simp)) (And.intro (T0.trans (Turns.of gd (.inl rfl))) (Nat.le_trans T0.1 gd.size)))
  clear hp hl T0 gd
  refine wp_region_held_drew (S := Two p low next) (by kernel_rfl) BX.out (fun hH => ?_)
  clear BX
  generalize u0.drew = u' at *
  clear u0
  rename World => u
  simp only [List.size_toArray, List.length_cons, List.length_nil, Nat.reduceAdd, Array.replicate, List.replicate]
  refine wpAnyH_take (i := 0) (v := ?_) rfl (by kernel_rfl) (by kernel_rfl) (by kernel_rfl) (fun _ _ _ h => h) (Or.inl ⟨by rfl, ?_⟩) hH ?_
  rotate_left
  · (intro v hS; obtain ⟨s2, s3⟩ := hS; go_simp; try with_reducible rfl)
  simp only [Act.put, List.setIfInBounds_toArray, List.set_cons_zero, List.set_cons_succ, List.getElem_toArray, List.getElem_cons_succ, List.getElem_cons_zero]
  refine wpAnyH_take (i := 1) (v := ?_) rfl (by kernel_rfl) (by kernel_rfl) (by kernel_rfl) (fun _ _ _ h => h) (Or.inl ⟨by rfl, ?_⟩) hH ?_
  rotate_left
  · (intro v hS; obtain ⟨s2, s3⟩ := hS; go_simp; try with_reducible rfl)
  simp only [Act.put, List.setIfInBounds_toArray, List.set_cons_zero, List.set_cons_succ, List.getElem_toArray, List.getElem_cons_succ, List.getElem_cons_zero]
  refine wpAnyH_take (i := 2) (v := ?_) rfl (by kernel_rfl) (by kernel_rfl) (by kernel_rfl) (fun _ _ _ h => h) (Or.inl ⟨by rfl, ?_⟩) hH ?_
  rotate_left
  · (intro v hS; obtain ⟨s2, s3⟩ := hS; go_simp; try with_reducible rfl)
  simp only [Act.put, List.setIfInBounds_toArray, List.set_cons_zero, List.set_cons_succ, List.getElem_toArray, List.getElem_cons_succ, List.getElem_cons_zero]
  refine wpAnyH_take (i := 3) (v := ?_) rfl (by kernel_rfl) (by kernel_rfl) (by kernel_rfl) (fun _ _ _ h => h) (Or.inl ⟨by rfl, ?_⟩) hH ?_
  rotate_left
  · (intro v hS; obtain ⟨s2, s3⟩ := hS; go_simp; try with_reducible rfl)
  simp only [Act.put, List.setIfInBounds_toArray, List.set_cons_zero, List.set_cons_succ, List.getElem_toArray, List.getElem_cons_succ, List.getElem_cons_zero]
  refine wpAnyH_take (i := 5) (v := ?_) rfl (by kernel_rfl) (by kernel_rfl) (by kernel_rfl) (fun _ _ _ h => h) (Or.inl ⟨by rfl, ?_⟩) hH ?_
  rotate_left
  · (intro v hS; obtain ⟨s2, s3⟩ := hS; go_simp; try with_reducible rfl)
  simp only [Act.put, List.setIfInBounds_toArray, List.set_cons_zero, List.set_cons_succ, List.getElem_toArray, List.getElem_cons_succ, List.getElem_cons_zero]
  refine wpAnyH_take (i := 6) (v := ?_) rfl (by kernel_rfl) (by kernel_rfl) (by kernel_rfl) (fun _ _ _ h => h) (Or.inl ⟨by rfl, ?_⟩) hH ?_
  rotate_left
  · (intro v hS; obtain ⟨s2, s3⟩ := hS; go_simp; try with_reducible rfl)
  simp only [Act.put, List.setIfInBounds_toArray, List.set_cons_zero, List.set_cons_succ, List.getElem_toArray, List.getElem_cons_succ, List.getElem_cons_zero]
  refine wpAnyH_take (i := 7) (v := ?_) rfl (by kernel_rfl) (by kernel_rfl) (by kernel_rfl) (fun _ _ _ h => h) (Or.inl ⟨by rfl, ?_⟩) hH ?_
  rotate_left
  · (intro v hS; obtain ⟨s2, s3⟩ := hS; go_simp; try with_reducible rfl)
  simp only [Act.put, List.setIfInBounds_toArray, List.set_cons_zero, List.set_cons_succ, List.getElem_toArray, List.getElem_cons_succ, List.getElem_cons_zero]
  refine wpAnyH_take (i := 8) (v := ?_) rfl (by kernel_rfl) (by kernel_rfl) (by kernel_rfl) (fun _ _ _ h => h) (Or.inl ⟨by rfl, ?_⟩) hH ?_
  rotate_left
  · (intro v hS; obtain ⟨s2, s3⟩ := hS; go_simp; try with_reducible rfl)
  simp only [Act.put, List.setIfInBounds_toArray, List.set_cons_zero, List.set_cons_succ, List.getElem_toArray, List.getElem_cons_succ, List.getElem_cons_zero]
  refine wpAnyH_take (i := 9) (v := ?_) rfl (by kernel_rfl) (by kernel_rfl) (by kernel_rfl) (fun _ _ _ h => h) (Or.inl ⟨by rfl, ?_⟩) hH ?_
  rotate_left
  · (intro v hS; obtain ⟨s2, s3⟩ := hS; go_simp; try with_reducible rfl)
  simp only [Act.put, List.setIfInBounds_toArray, List.set_cons_zero, List.set_cons_succ, List.getElem_toArray, List.getElem_cons_succ, List.getElem_cons_zero]
  refine wpAnyH_take (i := 10) (v := ?_) rfl (by kernel_rfl) (by kernel_rfl) (by kernel_rfl) (fun _ _ _ h => h) (Or.inl ⟨by rfl, ?_⟩) hH ?_
  rotate_left
  · (intro v hS; obtain ⟨s2, s3⟩ := hS; go_simp; try with_reducible rfl)
  simp only [Act.put, List.setIfInBounds_toArray, List.set_cons_zero, List.set_cons_succ, List.getElem_toArray, List.getElem_cons_succ, List.getElem_cons_zero]
  refine wpAnyH_take (i := 11) (v := ?_) rfl (by kernel_rfl) (by kernel_rfl) (by kernel_rfl) (fun _ _ _ h => h) (Or.inl ⟨by rfl, ?_⟩) hH ?_
  rotate_left
  · (intro v hS; obtain ⟨s2, s3⟩ := hS; go_simp; try with_reducible rfl)
  simp only [Act.put, List.setIfInBounds_toArray, List.set_cons_zero, List.set_cons_succ, List.getElem_toArray, List.getElem_cons_succ, List.getElem_cons_zero]
  refine wpAnyH_take (i := 12) (v := ?_) rfl (by kernel_rfl) (by kernel_rfl) (by kernel_rfl) (fun _ _ _ h => h) (Or.inl ⟨by rfl, ?_⟩) hH ?_
  rotate_left
  · (intro v hS; obtain ⟨s2, s3⟩ := hS; go_simp; try with_reducible rfl)
  simp only [Act.put, List.setIfInBounds_toArray, List.set_cons_zero, List.set_cons_succ, List.getElem_toArray, List.getElem_cons_succ, List.getElem_cons_zero]
  refine wpAnyH_take (i := 13) (v := ?_) rfl (by kernel_rfl) (by kernel_rfl) (by kernel_rfl) (fun _ _ _ h => h) (Or.inl ⟨by rfl, ?_⟩) hH ?_
  rotate_left
  · (intro v hS; obtain ⟨s2, s3⟩ := hS; go_simp; try with_reducible rfl)
  simp only [Act.put, List.setIfInBounds_toArray, List.set_cons_zero, List.set_cons_succ, List.getElem_toArray, List.getElem_cons_succ, List.getElem_cons_zero]
  refine wpAnyH_take (i := 14) (v := ?_) rfl (by kernel_rfl) (by kernel_rfl) (by kernel_rfl) (fun _ _ _ h => h) (Or.inl ⟨by rfl, ?_⟩) hH ?_
  rotate_left
  · (intro v hS; obtain ⟨s2, s3⟩ := hS; go_simp; try with_reducible rfl)
  simp only [Act.put, List.setIfInBounds_toArray, List.set_cons_zero, List.set_cons_succ, List.getElem_toArray, List.getElem_cons_succ, List.getElem_cons_zero]
  refine wpAnyH_ready (rs := [4, 15]) (by kernel_rfl) (by simp) ?_
  refine AllReadyH.cons rfl (fun K hK => ?_) (AllReadyH.cons rfl (fun K hK => ?_) AllReadyH.nil)
  · have v4 := (five HP.out.1).1.2.2.2.2
    go_simp
    clear v4
    refine hK.out _ _ hH (fun hH0 => ?_)
    clear hK K hH0
    simp only [Act.put, List.setIfInBounds_toArray, List.set_cons_zero, List.set_cons_succ, List.getElem_toArray, List.getElem_cons_succ, List.getElem_cons_zero]
    refine wpAnyH_ready (rs := [15]) (by kernel_rfl) (by simp) ?_
    refine AllReadyH.cons rfl (fun K hK => ?_) AllReadyH.nil
    go_simp
    obtain ⟨hp, hl, T0, S0⟩ := HP.out
    have ga := World.grownBy_alloc u (.cells #[.int .i64 x, .int .i64 low, .int .i64 next] 59) none
    have NEW : Hid _ := three_new u 59 x low next
    have HQ : Hid _ := And.intro (blk0 ga hp) (And.intro (hl.kept ga (by simp)) (And.intro (T0.trans (Turns.of ga (.inl rfl))) (Nat.le_trans S0 ga.size)))
    have HH := hH.kept ga (by simp)
    clear HP hp hl T0 S0 ga hH
    refine hK.out _ _ HH (fun hH => ?_)
    clear hK K HH
    have HP := HQ
    clear HQ
    generalize u.alloc (.cells #[.int .i64 x, .int .i64 low, .int .i64 next] 59) = u' at *
    generalize u.heap.size = q at *
    clear u
    rename World => u
    simp only [Act.put, List.setIfInBounds_toArray, List.set_cons_zero, List.set_cons_succ, List.getElem_toArray, List.getElem_cons_succ, List.getElem_cons_zero]
    refine wpAnyH_ready (rs := [16]) (by kernel_rfl) (by simp) ?_
    refine AllReadyH.cons rfl (fun K hK => ?_) AllReadyH.nil
    obtain ⟨hp, hl, T0, S0⟩ := HP.out
    obtain ⟨i0, hi, hz0, hz1, hz2⟩ := info_parts infoA
    refine step_push rfl (.tmp 22) (.tmp 33) 24 rfl 59 i0 (.agg #[.int .i64 0, .int .i64 0, .int .i64 0]) Tryd.underlying24 hi hz0 hz1 hz2 rfl g 3999 (d - 1) (some ⟨g, off + 3, none⟩) (ls.drop 3) rfl hl (by omega) ⟨q, 0, none⟩ rfl x low next NEW.out ?_
    intro b' d' g' u' hg' hl' kg
    have hp' := (kg.block p (lt_of_block hp) (by simp; omega)).trans hp
    have HQ : Hid _ := And.intro hp' (And.intro hl' (And.intro (T0.trans (Turns.of kg (.inr (.inr rfl)))) (show g' = g ∨ w.heap.size ≤ g' by omega)))
    have HH := hH.kept kg (by simp; omega)
    have gp' : g' ≠ p := by have := lt_of_block hp; omega
    clear HP NEW hp hl T0 S0 hg' hl' kg hp' hH hi hz0 hz1 hz2 i0
    refine hK.out _ _ HH (fun hH => ?_)
    clear hK K HH
    clear u
    rename World => u
    simp only [Act.put, List.setIfInBounds_toArray, List.set_cons_zero, List.set_cons_succ, List.getElem_toArray, List.getElem_cons_succ, List.getElem_cons_zero]
    refine wpAnyH_take (i := 17) (v := ?_) rfl (by kernel_rfl) (by kernel_rfl) (by kernel_rfl) (fun _ _ _ h => h) (Or.inl ⟨by rfl, ?_⟩) hH ?_
    rotate_left
    · (intro v hS; obtain ⟨s2, s3⟩ := hS; go_simp; try with_reducible rfl)
    simp only [Act.put, List.setIfInBounds_toArray, List.set_cons_zero, List.set_cons_succ, List.getElem_toArray, List.getElem_cons_succ, List.getElem_cons_zero]
    refine wpAnyH_take (i := 18) (v := ?_) rfl (by kernel_rfl) (by kernel_rfl) (by kernel_rfl) (fun _ _ _ h => h) (Or.inl ⟨by rfl, ?_⟩) hH ?_
    rotate_left
    · (intro v hS; obtain ⟨s2, s3⟩ := hS; go_simp; try with_reducible rfl)
    simp only [Act.put, List.setIfInBounds_toArray, List.set_cons_zero, List.set_cons_succ, List.getElem_toArray, List.getElem_cons_succ, List.getElem_cons_zero]
    obtain ⟨hp, hl, T0, S0⟩ := HQ.out
    obtain ⟨⟨z0, z1, z2, z3, z4⟩, f0, f1, f2, f3, f4⟩ := five hp
    have kg := grown_setCell u p 4 (.slice b' (3999 + 1) d')
    have hp' := heap_setCell_same u p 4 _ 26 (.slice b' (3999 + 1) d') hp
    have HH : Hid (Two p low next (u.setCell ⟨p, 4, none⟩ (.slice b' (3999 + 1) d'))) := ⟨(five hp').1.2.2.1, (five hp').1.2.2.2.1⟩
    have FIN : Hid _ := And.intro hp' (And.intro (hl.kept kg (by simp; omega)) (And.intro (T0.trans (Turns.of kg (.inr (.inl rfl)))) S0))
    clear HQ hp hl T0 S0 kg hp' hH
    refine wpAnyH_ready (rs := [19]) (by kernel_rfl) (by simp) ?_
    refine AllReadyH.cons rfl (fun K hK => ?_) AllReadyH.nil
    go_simp
    refine hK.out _ _ HH.out (fun _ => ?_)
    clear hK K
    refine wpAnyH_done (by kernel_rfl) ?_ _
    (try go_wp2)
    (try simp only [Exit.inBlock, Exit.then])
    refine bodyPost_end (results_none (P := Tryd.prog) Tryd.results48 _ _) rfl ?_
    obtain ⟨y1, y2, y3, y4⟩ := FIN.out
    exact ⟨rfl, b', d', g', y1, y2, y4, y3⟩
  · go_simp
    obtain ⟨hp, hl, T0, S0⟩ := HP.out
    have ga := World.grownBy_alloc u (.cells #[.int .i64 x, .int .i64 low, .int .i64 next] 59) none
    have NEW : Hid _ := three_new u 59 x low next
    have HQ : Hid _ := And.intro (blk0 ga hp) (And.intro (hl.kept ga (by simp)) (And.intro (T0.trans (Turns.of ga (.inl rfl))) (Nat.le_trans S0 ga.size)))
    have HH := hH.kept ga (by simp)
    clear HP hp hl T0 S0 ga hH
    refine hK.out _ _ HH (fun hH => ?_)
    clear hK K HH
    have HP := HQ
    clear HQ
    generalize u.alloc (.cells #[.int .i64 x, .int .i64 low, .int .i64 next] 59) = u' at *
    generalize u.heap.size = q at *
    clear u
    rename World => u
    simp only [Act.put, List.setIfInBounds_toArray, List.set_cons_zero, List.set_cons_succ, List.getElem_toArray, List.getElem_cons_succ, List.getElem_cons_zero]
    refine wpAnyH_ready (rs := [4]) (by kernel_rfl) (by simp) ?_
    refine AllReadyH.cons rfl (fun K hK => ?_) AllReadyH.nil
    have v4 := (five HP.out.1).1.2.2.2.2
    go_simp
    clear v4
    refine hK.out _ _ hH (fun hH0 => ?_)
    clear hK K hH0
    simp only [Act.put, List.setIfInBounds_toArray, List.set_cons_zero, List.set_cons_succ, List.getElem_toArray, List.getElem_cons_succ, List.getElem_cons_zero]
    refine wpAnyH_ready (rs := [16]) (by kernel_rfl) (by simp) ?_
    refine AllReadyH.cons rfl (fun K hK => ?_) AllReadyH.nil
    obtain ⟨hp, hl, T0, S0⟩ := HP.out
    obtain ⟨i0, hi, hz0, hz1, hz2⟩ := info_parts infoA
    refine step_push rfl (.tmp 22) (.tmp 33) 24 rfl 59 i0 (.agg #[.int .i64 0, .int .i64 0, .int .i64 0]) Tryd.underlying24 hi hz0 hz1 hz2 rfl g 3999 (d - 1) (some ⟨g, off + 3, none⟩) (ls.drop 3) rfl hl (by omega) ⟨q, 0, none⟩ rfl x low next NEW.out ?_
    intro b' d' g' u' hg' hl' kg
    have hp' := (kg.block p (lt_of_block hp) (by simp; omega)).trans hp
    have HQ : Hid _ := And.intro hp' (And.intro hl' (And.intro (T0.trans (Turns.of kg (.inr (.inr rfl)))) (show g' = g ∨ w.heap.size ≤ g' by omega)))
    have HH := hH.kept kg (by simp; omega)
    have gp' : g' ≠ p := by have := lt_of_block hp; omega
    clear HP NEW hp hl T0 S0 hg' hl' kg hp' hH hi hz0 hz1 hz2 i0
    refine hK.out _ _ HH (fun hH => ?_)
    clear hK K HH
    clear u
    rename World => u
    simp only [Act.put, List.setIfInBounds_toArray, List.set_cons_zero, List.set_cons_succ, List.getElem_toArray, List.getElem_cons_succ, List.getElem_cons_zero]
    refine wpAnyH_take (i := 17) (v := ?_) rfl (by kernel_rfl) (by kernel_rfl) (by kernel_rfl) (fun _ _ _ h => h) (Or.inl ⟨by rfl, ?_⟩) hH ?_
    rotate_left
    · (intro v hS; obtain ⟨s2, s3⟩ := hS; go_simp; try with_reducible rfl)
    simp only [Act.put, List.setIfInBounds_toArray, List.set_cons_zero, List.set_cons_succ, List.getElem_toArray, List.getElem_cons_succ, List.getElem_cons_zero]
    refine wpAnyH_take (i := 18) (v := ?_) rfl (by kernel_rfl) (by kernel_rfl) (by kernel_rfl) (fun _ _ _ h => h) (Or.inl ⟨by rfl, ?_⟩) hH ?_
    rotate_left
    · (intro v hS; obtain ⟨s2, s3⟩ := hS; go_simp; try with_reducible rfl)
    simp only [Act.put, List.setIfInBounds_toArray, List.set_cons_zero, List.set_cons_succ, List.getElem_toArray, List.getElem_cons_succ, List.getElem_cons_zero]
    obtain ⟨hp, hl, T0, S0⟩ := HQ.out
    obtain ⟨⟨z0, z1, z2, z3, z4⟩, f0, f1, f2, f3, f4⟩ := five hp
    have kg := grown_setCell u p 4 (.slice b' (3999 + 1) d')
    have hp' := heap_setCell_same u p 4 _ 26 (.slice b' (3999 + 1) d') hp
    have HH : Hid (Two p low next (u.setCell ⟨p, 4, none⟩ (.slice b' (3999 + 1) d'))) := ⟨(five hp').1.2.2.1, (five hp').1.2.2.2.1⟩
    have FIN : Hid _ := And.intro hp' (And.intro (hl.kept kg (by simp; omega)) (And.intro (T0.trans (Turns.of kg (.inr (.inl rfl)))) S0))
    clear HQ hp hl T0 S0 kg hp' hH
    refine wpAnyH_ready (rs := [19]) (by kernel_rfl) (by simp) ?_
    refine AllReadyH.cons rfl (fun K hK => ?_) AllReadyH.nil
    go_simp
    refine hK.out _ _ HH.out (fun _ => ?_)
    clear hK K
    refine wpAnyH_done (by kernel_rfl) ?_ _
    (try go_wp2)
    (try simp only [Exit.inBlock, Exit.then])
    refine bodyPost_end (results_none (P := Tryd.prog) Tryd.results48 _ _) rfl ?_
    obtain ⟨y1, y2, y3, y4⟩ := FIN.out
    exact ⟨rfl, b', d', g', y1, y2, y4, y3⟩

set_option maxHeartbeats 2000000 in
theorem slog1 (p n m c d g : Nat) (a b : Option Addr) (half low next x : Int) (ls : List Int) (w : World) (hp : w.heap[p]? = some (.cells #[.slice a n c, .int .i64 half, .int .i64 low, .int .i64 next, .slice b m d] 26 (0, 0))) (hl : LogI w 59 g b m d ls) (hm : m < 4000) (hgp : g ≠ p) :
    Calls Tryd.prog 47 #[.pointer (some ⟨p, 0, none⟩), .int .i64 x] w fun e w' => e = .returned (.tuple #[]) ∧ ∃ b' d' g', w'.heap[p]? = some (.cells #[.slice a n c, .int .i64 half, .int .i64 low, .int .i64 next, .slice b' (m + 1) d'] 26 (0, 0)) ∧ LogI w' 59 g' b' (m + 1) d' (ls ++ [x, low, next]) ∧ (g' = g ∨ w.heap.size ≤ g') ∧ Turns w w' p g := by
  have HP0 : Hid _ := And.intro hp hl
  obtain ⟨⟨v0, v1, v2, v3, v4⟩, -⟩ := five hp
  have q1 : ¬ ((m : Int) = 4000) := by omega
  clear hp hl
  go_enter Tryd.func47, Tryd.ntmps47
  go_wp2_with fail
  obtain ⟨hp, hl⟩ := HP0.out
  have T0 : Turns w w p g := Turns.of (World.grownBy.refl w none) (.inl rfl)
  clear HP0 v0 v1 v2 v3 v4
  have BX : Hid (Two p low next w.drew) := ⟨(five hp).1.2.2.1, (five hp).1.2.2.2.1⟩
  have gd := grown_drew (World.grownBy.refl w none)
  have HP : Hid _ := And.intro (blk0 gd hp) (And.intro (hl.kept gd (by simp)) (And.intro (T0.trans (Turns.of gd (.inl rfl))) (Nat.le_trans T0.1 gd.size)))
  clear hp hl T0 gd
  refine wp_region_held_drew (S := Two p low next) (by kernel_rfl) BX.out (fun hH => ?_)
  clear BX
  generalize w.drew = u' at *
  rename World => u
  simp only [List.size_toArray, List.length_cons, List.length_nil, Nat.reduceAdd, Array.replicate, List.replicate]
  refine wpAnyH_take (i := 0) (v := ?_) rfl (by kernel_rfl) (by kernel_rfl) (by kernel_rfl) (fun _ _ _ h => h) (Or.inl ⟨by rfl, ?_⟩) hH ?_
  rotate_left
  · (intro v hS; obtain ⟨s2, s3⟩ := hS; go_simp; try with_reducible rfl)
  simp only [Act.put, List.setIfInBounds_toArray, List.set_cons_zero, List.set_cons_succ, List.getElem_toArray, List.getElem_cons_succ, List.getElem_cons_zero]
  refine wpAnyH_take (i := 1) (v := ?_) rfl (by kernel_rfl) (by kernel_rfl) (by kernel_rfl) (fun _ _ _ h => h) (Or.inl ⟨by rfl, ?_⟩) hH ?_
  rotate_left
  · (intro v hS; obtain ⟨s2, s3⟩ := hS; go_simp; try with_reducible rfl)
  simp only [Act.put, List.setIfInBounds_toArray, List.set_cons_zero, List.set_cons_succ, List.getElem_toArray, List.getElem_cons_succ, List.getElem_cons_zero]
  refine wpAnyH_take (i := 2) (v := ?_) rfl (by kernel_rfl) (by kernel_rfl) (by kernel_rfl) (fun _ _ _ h => h) (Or.inl ⟨by rfl, ?_⟩) hH ?_
  rotate_left
  · (intro v hS; obtain ⟨s2, s3⟩ := hS; go_simp; try with_reducible rfl)
  simp only [Act.put, List.setIfInBounds_toArray, List.set_cons_zero, List.set_cons_succ, List.getElem_toArray, List.getElem_cons_succ, List.getElem_cons_zero]
  refine wpAnyH_take (i := 3) (v := ?_) rfl (by kernel_rfl) (by kernel_rfl) (by kernel_rfl) (fun _ _ _ h => h) (Or.inl ⟨by rfl, ?_⟩) hH ?_
  rotate_left
  · (intro v hS; obtain ⟨s2, s3⟩ := hS; go_simp; try with_reducible rfl)
  simp only [Act.put, List.setIfInBounds_toArray, List.set_cons_zero, List.set_cons_succ, List.getElem_toArray, List.getElem_cons_succ, List.getElem_cons_zero]
  refine wpAnyH_take (i := 5) (v := ?_) rfl (by kernel_rfl) (by kernel_rfl) (by kernel_rfl) (fun _ _ _ h => h) (Or.inl ⟨by rfl, ?_⟩) hH ?_
  rotate_left
  · (intro v hS; obtain ⟨s2, s3⟩ := hS; go_simp; try with_reducible rfl)
  simp only [Act.put, List.setIfInBounds_toArray, List.set_cons_zero, List.set_cons_succ, List.getElem_toArray, List.getElem_cons_succ, List.getElem_cons_zero]
  refine wpAnyH_take (i := 6) (v := ?_) rfl (by kernel_rfl) (by kernel_rfl) (by kernel_rfl) (fun _ _ _ h => h) (Or.inl ⟨by rfl, ?_⟩) hH ?_
  rotate_left
  · (intro v hS; obtain ⟨s2, s3⟩ := hS; go_simp; try with_reducible rfl)
  simp only [Act.put, List.setIfInBounds_toArray, List.set_cons_zero, List.set_cons_succ, List.getElem_toArray, List.getElem_cons_succ, List.getElem_cons_zero]
  refine wpAnyH_take (i := 7) (v := ?_) rfl (by kernel_rfl) (by kernel_rfl) (by kernel_rfl) (fun _ _ _ h => h) (Or.inl ⟨by rfl, ?_⟩) hH ?_
  rotate_left
  · (intro v hS; obtain ⟨s2, s3⟩ := hS; go_simp; try with_reducible rfl)
  simp only [Act.put, List.setIfInBounds_toArray, List.set_cons_zero, List.set_cons_succ, List.getElem_toArray, List.getElem_cons_succ, List.getElem_cons_zero]
  refine wpAnyH_take (i := 8) (v := ?_) rfl (by kernel_rfl) (by kernel_rfl) (by kernel_rfl) (fun _ _ _ h => h) (Or.inl ⟨by rfl, ?_⟩) hH ?_
  rotate_left
  · (intro v hS; obtain ⟨s2, s3⟩ := hS; go_simp; try with_reducible rfl)
  simp only [Act.put, List.setIfInBounds_toArray, List.set_cons_zero, List.set_cons_succ, List.getElem_toArray, List.getElem_cons_succ, List.getElem_cons_zero]
  refine wpAnyH_take (i := 9) (v := ?_) rfl (by kernel_rfl) (by kernel_rfl) (by kernel_rfl) (fun _ _ _ h => h) (Or.inl ⟨by rfl, ?_⟩) hH ?_
  rotate_left
  · (intro v hS; obtain ⟨s2, s3⟩ := hS; go_simp; try with_reducible rfl)
  simp only [Act.put, List.setIfInBounds_toArray, List.set_cons_zero, List.set_cons_succ, List.getElem_toArray, List.getElem_cons_succ, List.getElem_cons_zero]
  refine wpAnyH_take (i := 10) (v := ?_) rfl (by kernel_rfl) (by kernel_rfl) (by kernel_rfl) (fun _ _ _ h => h) (Or.inl ⟨by rfl, ?_⟩) hH ?_
  rotate_left
  · (intro v hS; obtain ⟨s2, s3⟩ := hS; go_simp; try with_reducible rfl)
  simp only [Act.put, List.setIfInBounds_toArray, List.set_cons_zero, List.set_cons_succ, List.getElem_toArray, List.getElem_cons_succ, List.getElem_cons_zero]
  refine wpAnyH_take (i := 11) (v := ?_) rfl (by kernel_rfl) (by kernel_rfl) (by kernel_rfl) (fun _ _ _ h => h) (Or.inl ⟨by rfl, ?_⟩) hH ?_
  rotate_left
  · (intro v hS; obtain ⟨s2, s3⟩ := hS; go_simp; try with_reducible rfl)
  simp only [Act.put, List.setIfInBounds_toArray, List.set_cons_zero, List.set_cons_succ, List.getElem_toArray, List.getElem_cons_succ, List.getElem_cons_zero]
  refine wpAnyH_take (i := 12) (v := ?_) rfl (by kernel_rfl) (by kernel_rfl) (by kernel_rfl) (fun _ _ _ h => h) (Or.inl ⟨by rfl, ?_⟩) hH ?_
  rotate_left
  · (intro v hS; obtain ⟨s2, s3⟩ := hS; go_simp; try with_reducible rfl)
  simp only [Act.put, List.setIfInBounds_toArray, List.set_cons_zero, List.set_cons_succ, List.getElem_toArray, List.getElem_cons_succ, List.getElem_cons_zero]
  refine wpAnyH_take (i := 13) (v := ?_) rfl (by kernel_rfl) (by kernel_rfl) (by kernel_rfl) (fun _ _ _ h => h) (Or.inl ⟨by rfl, ?_⟩) hH ?_
  rotate_left
  · (intro v hS; obtain ⟨s2, s3⟩ := hS; go_simp; try with_reducible rfl)
  simp only [Act.put, List.setIfInBounds_toArray, List.set_cons_zero, List.set_cons_succ, List.getElem_toArray, List.getElem_cons_succ, List.getElem_cons_zero]
  refine wpAnyH_take (i := 14) (v := ?_) rfl (by kernel_rfl) (by kernel_rfl) (by kernel_rfl) (fun _ _ _ h => h) (Or.inl ⟨by rfl, ?_⟩) hH ?_
  rotate_left
  · (intro v hS; obtain ⟨s2, s3⟩ := hS; go_simp; try with_reducible rfl)
  simp only [Act.put, List.setIfInBounds_toArray, List.set_cons_zero, List.set_cons_succ, List.getElem_toArray, List.getElem_cons_succ, List.getElem_cons_zero]
  refine wpAnyH_ready (rs := [4, 15]) (by kernel_rfl) (by simp) ?_
  refine AllReadyH.cons rfl (fun K hK => ?_) (AllReadyH.cons rfl (fun K hK => ?_) AllReadyH.nil)
  · have v4 := (five HP.out.1).1.2.2.2.2
    go_simp
    clear v4
    refine hK.out _ _ hH (fun hH0 => ?_)
    clear hK K hH0
    simp only [Act.put, List.setIfInBounds_toArray, List.set_cons_zero, List.set_cons_succ, List.getElem_toArray, List.getElem_cons_succ, List.getElem_cons_zero]
    refine wpAnyH_ready (rs := [15]) (by kernel_rfl) (by simp) ?_
    refine AllReadyH.cons rfl (fun K hK => ?_) AllReadyH.nil
    go_simp
    obtain ⟨hp, hl, T0, S0⟩ := HP.out
    have ga := World.grownBy_alloc u (.cells #[.int .i64 x, .int .i64 low, .int .i64 next] 59) none
    have NEW : Hid _ := three_new u 59 x low next
    have HQ : Hid _ := And.intro (blk0 ga hp) (And.intro (hl.kept ga (by simp)) (And.intro (T0.trans (Turns.of ga (.inl rfl))) (Nat.le_trans S0 ga.size)))
    have HH := hH.kept ga (by simp)
    clear HP hp hl T0 S0 ga hH
    refine hK.out _ _ HH (fun hH => ?_)
    clear hK K HH
    have HP := HQ
    clear HQ
    generalize u.alloc (.cells #[.int .i64 x, .int .i64 low, .int .i64 next] 59) = u' at *
    generalize u.heap.size = q at *
    clear u
    rename World => u
    simp only [Act.put, List.setIfInBounds_toArray, List.set_cons_zero, List.set_cons_succ, List.getElem_toArray, List.getElem_cons_succ, List.getElem_cons_zero]
    refine wpAnyH_ready (rs := [16]) (by kernel_rfl) (by simp) ?_
    refine AllReadyH.cons rfl (fun K hK => ?_) AllReadyH.nil
    obtain ⟨hp, hl, T0, S0⟩ := HP.out
    obtain ⟨i0, hi, hz0, hz1, hz2⟩ := info_parts infoA
    refine step_push rfl (.tmp 22) (.tmp 33) 24 rfl 59 i0 (.agg #[.int .i64 0, .int .i64 0, .int .i64 0]) Tryd.underlying24 hi hz0 hz1 hz2 rfl g m d b ls rfl hl (by omega) ⟨q, 0, none⟩ rfl x low next NEW.out ?_
    intro b' d' g' u' hg' hl' kg
    have hp' := (kg.block p (lt_of_block hp) (by simp; omega)).trans hp
    have HQ : Hid _ := And.intro hp' (And.intro hl' (And.intro (T0.trans (Turns.of kg (.inr (.inr rfl)))) (show g' = g ∨ w.heap.size ≤ g' by omega)))
    have HH := hH.kept kg (by simp; omega)
    have gp' : g' ≠ p := by have := lt_of_block hp; omega
    clear HP NEW hp hl T0 S0 hg' hl' kg hp' hH hi hz0 hz1 hz2 i0
    refine hK.out _ _ HH (fun hH => ?_)
    clear hK K HH
    clear u
    rename World => u
    simp only [Act.put, List.setIfInBounds_toArray, List.set_cons_zero, List.set_cons_succ, List.getElem_toArray, List.getElem_cons_succ, List.getElem_cons_zero]
    refine wpAnyH_take (i := 17) (v := ?_) rfl (by kernel_rfl) (by kernel_rfl) (by kernel_rfl) (fun _ _ _ h => h) (Or.inl ⟨by rfl, ?_⟩) hH ?_
    rotate_left
    · (intro v hS; obtain ⟨s2, s3⟩ := hS; go_simp; try with_reducible rfl)
    simp only [Act.put, List.setIfInBounds_toArray, List.set_cons_zero, List.set_cons_succ, List.getElem_toArray, List.getElem_cons_succ, List.getElem_cons_zero]
    refine wpAnyH_take (i := 18) (v := ?_) rfl (by kernel_rfl) (by kernel_rfl) (by kernel_rfl) (fun _ _ _ h => h) (Or.inl ⟨by rfl, ?_⟩) hH ?_
    rotate_left
    · (intro v hS; obtain ⟨s2, s3⟩ := hS; go_simp; try with_reducible rfl)
    simp only [Act.put, List.setIfInBounds_toArray, List.set_cons_zero, List.set_cons_succ, List.getElem_toArray, List.getElem_cons_succ, List.getElem_cons_zero]
    obtain ⟨hp, hl, T0, S0⟩ := HQ.out
    obtain ⟨⟨z0, z1, z2, z3, z4⟩, f0, f1, f2, f3, f4⟩ := five hp
    have kg := grown_setCell u p 4 (.slice b' (m + 1) d')
    have hp' := heap_setCell_same u p 4 _ 26 (.slice b' (m + 1) d') hp
    have HH : Hid (Two p low next (u.setCell ⟨p, 4, none⟩ (.slice b' (m + 1) d'))) := ⟨(five hp').1.2.2.1, (five hp').1.2.2.2.1⟩
    have FIN : Hid _ := And.intro hp' (And.intro (hl.kept kg (by simp; omega)) (And.intro (T0.trans (Turns.of kg (.inr (.inl rfl)))) S0))
    clear HQ hp hl T0 S0 kg hp' hH
    refine wpAnyH_ready (rs := [19]) (by kernel_rfl) (by simp) ?_
    refine AllReadyH.cons rfl (fun K hK => ?_) AllReadyH.nil
    go_simp
    refine hK.out _ _ HH.out (fun _ => ?_)
    clear hK K
    refine wpAnyH_done (by kernel_rfl) ?_ _
    (try go_wp2)
    (try simp only [Exit.inBlock, Exit.then])
    refine bodyPost_end (results_none (P := Tryd.prog) Tryd.results47 _ _) rfl ?_
    obtain ⟨y1, y2, y3, y4⟩ := FIN.out
    exact ⟨rfl, b', d', g', y1, y2, y4, y3⟩
  · go_simp
    obtain ⟨hp, hl, T0, S0⟩ := HP.out
    have ga := World.grownBy_alloc u (.cells #[.int .i64 x, .int .i64 low, .int .i64 next] 59) none
    have NEW : Hid _ := three_new u 59 x low next
    have HQ : Hid _ := And.intro (blk0 ga hp) (And.intro (hl.kept ga (by simp)) (And.intro (T0.trans (Turns.of ga (.inl rfl))) (Nat.le_trans S0 ga.size)))
    have HH := hH.kept ga (by simp)
    clear HP hp hl T0 S0 ga hH
    refine hK.out _ _ HH (fun hH => ?_)
    clear hK K HH
    have HP := HQ
    clear HQ
    generalize u.alloc (.cells #[.int .i64 x, .int .i64 low, .int .i64 next] 59) = u' at *
    generalize u.heap.size = q at *
    clear u
    rename World => u
    simp only [Act.put, List.setIfInBounds_toArray, List.set_cons_zero, List.set_cons_succ, List.getElem_toArray, List.getElem_cons_succ, List.getElem_cons_zero]
    refine wpAnyH_ready (rs := [4]) (by kernel_rfl) (by simp) ?_
    refine AllReadyH.cons rfl (fun K hK => ?_) AllReadyH.nil
    have v4 := (five HP.out.1).1.2.2.2.2
    go_simp
    clear v4
    refine hK.out _ _ hH (fun hH0 => ?_)
    clear hK K hH0
    simp only [Act.put, List.setIfInBounds_toArray, List.set_cons_zero, List.set_cons_succ, List.getElem_toArray, List.getElem_cons_succ, List.getElem_cons_zero]
    refine wpAnyH_ready (rs := [16]) (by kernel_rfl) (by simp) ?_
    refine AllReadyH.cons rfl (fun K hK => ?_) AllReadyH.nil
    obtain ⟨hp, hl, T0, S0⟩ := HP.out
    obtain ⟨i0, hi, hz0, hz1, hz2⟩ := info_parts infoA
    refine step_push rfl (.tmp 22) (.tmp 33) 24 rfl 59 i0 (.agg #[.int .i64 0, .int .i64 0, .int .i64 0]) Tryd.underlying24 hi hz0 hz1 hz2 rfl g m d b ls rfl hl (by omega) ⟨q, 0, none⟩ rfl x low next NEW.out ?_
    intro b' d' g' u' hg' hl' kg
    have hp' := (kg.block p (lt_of_block hp) (by simp; omega)).trans hp
    have HQ : Hid _ := And.intro hp' (And.intro hl' (And.intro (T0.trans (Turns.of kg (.inr (.inr rfl)))) (show g' = g ∨ w.heap.size ≤ g' by omega)))
    have HH := hH.kept kg (by simp; omega)
    have gp' : g' ≠ p := by have := lt_of_block hp; omega
    clear HP NEW hp hl T0 S0 hg' hl' kg hp' hH hi hz0 hz1 hz2 i0
    refine hK.out _ _ HH (fun hH => ?_)
    clear hK K HH
    clear u
    rename World => u
    simp only [Act.put, List.setIfInBounds_toArray, List.set_cons_zero, List.set_cons_succ, List.getElem_toArray, List.getElem_cons_succ, List.getElem_cons_zero]
    refine wpAnyH_take (i := 17) (v := ?_) rfl (by kernel_rfl) (by kernel_rfl) (by kernel_rfl) (fun _ _ _ h => h) (Or.inl ⟨by rfl, ?_⟩) hH ?_
    rotate_left
    · (intro v hS; obtain ⟨s2, s3⟩ := hS; go_simp; try with_reducible rfl)
    simp only [Act.put, List.setIfInBounds_toArray, List.set_cons_zero, List.set_cons_succ, List.getElem_toArray, List.getElem_cons_succ, List.getElem_cons_zero]
    refine wpAnyH_take (i := 18) (v := ?_) rfl (by kernel_rfl) (by kernel_rfl) (by kernel_rfl) (fun _ _ _ h => h) (Or.inl ⟨by rfl, ?_⟩) hH ?_
    rotate_left
    · (intro v hS; obtain ⟨s2, s3⟩ := hS; go_simp; try with_reducible rfl)
    simp only [Act.put, List.setIfInBounds_toArray, List.set_cons_zero, List.set_cons_succ, List.getElem_toArray, List.getElem_cons_succ, List.getElem_cons_zero]
    obtain ⟨hp, hl, T0, S0⟩ := HQ.out
    obtain ⟨⟨z0, z1, z2, z3, z4⟩, f0, f1, f2, f3, f4⟩ := five hp
    have kg := grown_setCell u p 4 (.slice b' (m + 1) d')
    have hp' := heap_setCell_same u p 4 _ 26 (.slice b' (m + 1) d') hp
    have HH : Hid (Two p low next (u.setCell ⟨p, 4, none⟩ (.slice b' (m + 1) d'))) := ⟨(five hp').1.2.2.1, (five hp').1.2.2.2.1⟩
    have FIN : Hid _ := And.intro hp' (And.intro (hl.kept kg (by simp; omega)) (And.intro (T0.trans (Turns.of kg (.inr (.inl rfl)))) S0))
    clear HQ hp hl T0 S0 kg hp' hH
    refine wpAnyH_ready (rs := [19]) (by kernel_rfl) (by simp) ?_
    refine AllReadyH.cons rfl (fun K hK => ?_) AllReadyH.nil
    go_simp
    refine hK.out _ _ HH.out (fun _ => ?_)
    clear hK K
    refine wpAnyH_done (by kernel_rfl) ?_ _
    (try go_wp2)
    (try simp only [Exit.inBlock, Exit.then])
    refine bodyPost_end (results_none (P := Tryd.prog) Tryd.results47 _ _) rfl ?_
    obtain ⟨y1, y2, y3, y4⟩ := FIN.out
    exact ⟨rfl, b', d', g', y1, y2, y4, y3⟩

set_option maxHeartbeats 2000000 in
theorem slog2 (p n c d g off : Nat) (a : Option Addr) (half low next x : Int) (ls : List Int) (w : World) (hp : w.heap[p]? = some (.cells #[.slice a n c, .int .i64 half, .int .i64 low, .int .i64 next, .slice (some ⟨g, off, none⟩) 4000 d] 26 (0, 0))) (hl : LogI w 59 g (some ⟨g, off, none⟩) 4000 d ls) (hgp : g ≠ p) :
    Calls Tryd.prog 47 #[.pointer (some ⟨p, 0, none⟩), .int .i64 x] w fun e w' => e = .returned (.tuple #[]) ∧ ∃ b' d' g', w'.heap[p]? = some (.cells #[.slice a n c, .int .i64 half, .int .i64 low, .int .i64 next, .slice b' (3999 + 1) d'] 26 (0, 0)) ∧ LogI w' 59 g' b' (3999 + 1) d' (ls.drop 3 ++ [x, low, next]) ∧ (g' = g ∨ w.heap.size ≤ g') ∧ Turns w w' p g := by
  have hd : 4000 ≤ d := hl.le
  have i1 : (1 : Int) ≤ (d : Int) := by omega
  have i3 : ¬ d = 1 := by omega
  have kg := grown_setCell w p 4 (.slice (some ⟨g, off + 3, none⟩) 3999 (d - 1))
  have hp' := heap_setCell_same w p 4 _ 26 (.slice (some ⟨g, off + 3, none⟩) 3999 (d - 1)) hp
  have HP0 : Hid _ := And.intro hp' (And.intro (hl.tail.kept kg (by simp; omega)) (Turns.of kg (.inr (.inl rfl)) : Turns w _ p g))
  obtain ⟨⟨v0, v1, v2, v3, v4⟩, f0, f1, f2, f3, f4⟩ := five hp
  clear hp hl kg hp'
  go_enter Tryd.func47, Tryd.ntmps47
  go_wp2_with fail
  obtain ⟨hp, hl, T0⟩ := HP0.out
  clear HP0 v0 v1 v2 v3 v4 f0 f1 f2 f3 f4 i1 i3
  generalize w.setCell ⟨p, 4, none⟩ (.slice (some ⟨g, off + 3, none⟩) 3999 (d - 1)) = u0 at *
  have BX : Hid (Two p low next u0.drew) := ⟨(five hp).1.2.2.1, (five hp).1.2.2.2.1⟩
  have gd := grown_drew (World.grownBy.refl u0 none)
  have HP : Hid _ := And.intro (blk0 gd hp) (And.intro (hl.kept gd (by simp)) (And.intro (T0.trans (Turns.of gd (.inl rfl))) (Nat.le_trans T0.1 gd.size)))
  clear hp hl T0 gd
  refine wp_region_held_drew (S := Two p low next) (by kernel_rfl) BX.out (fun hH => ?_)
  clear BX
  generalize u0.drew = u' at *
  clear u0
  rename World => u
  simp only [List.size_toArray, List.length_cons, List.length_nil, Nat.reduceAdd, Array.replicate, List.replicate]
  refine wpAnyH_take (i := 0) (v := ?_) rfl (by kernel_rfl) (by kernel_rfl) (by kernel_rfl) (fun _ _ _ h => h) (Or.inl ⟨by rfl, ?_⟩) hH ?_
  rotate_left
  · (intro v hS; obtain ⟨s2, s3⟩ := hS; go_simp; try with_reducible rfl)
  simp only [Act.put, List.setIfInBounds_toArray, List.set_cons_zero, List.set_cons_succ, List.getElem_toArray, List.getElem_cons_succ, List.getElem_cons_zero]
  refine wpAnyH_take (i := 1) (v := ?_) rfl (by kernel_rfl) (by kernel_rfl) (by kernel_rfl) (fun _ _ _ h => h) (Or.inl ⟨by rfl, ?_⟩) hH ?_
  rotate_left
  · (intro v hS; obtain ⟨s2, s3⟩ := hS; go_simp; try with_reducible rfl)
  simp only [Act.put, List.setIfInBounds_toArray, List.set_cons_zero, List.set_cons_succ, List.getElem_toArray, List.getElem_cons_succ, List.getElem_cons_zero]
  refine wpAnyH_take (i := 2) (v := ?_) rfl (by kernel_rfl) (by kernel_rfl) (by kernel_rfl) (fun _ _ _ h => h) (Or.inl ⟨by rfl, ?_⟩) hH ?_
  rotate_left
  · (intro v hS; obtain ⟨s2, s3⟩ := hS; go_simp; try with_reducible rfl)
  simp only [Act.put, List.setIfInBounds_toArray, List.set_cons_zero, List.set_cons_succ, List.getElem_toArray, List.getElem_cons_succ, List.getElem_cons_zero]
  refine wpAnyH_take (i := 3) (v := ?_) rfl (by kernel_rfl) (by kernel_rfl) (by kernel_rfl) (fun _ _ _ h => h) (Or.inl ⟨by rfl, ?_⟩) hH ?_
  rotate_left
  · (intro v hS; obtain ⟨s2, s3⟩ := hS; go_simp; try with_reducible rfl)
  simp only [Act.put, List.setIfInBounds_toArray, List.set_cons_zero, List.set_cons_succ, List.getElem_toArray, List.getElem_cons_succ, List.getElem_cons_zero]
  refine wpAnyH_take (i := 5) (v := ?_) rfl (by kernel_rfl) (by kernel_rfl) (by kernel_rfl) (fun _ _ _ h => h) (Or.inl ⟨by rfl, ?_⟩) hH ?_
  rotate_left
  · (intro v hS; obtain ⟨s2, s3⟩ := hS; go_simp; try with_reducible rfl)
  simp only [Act.put, List.setIfInBounds_toArray, List.set_cons_zero, List.set_cons_succ, List.getElem_toArray, List.getElem_cons_succ, List.getElem_cons_zero]
  refine wpAnyH_take (i := 6) (v := ?_) rfl (by kernel_rfl) (by kernel_rfl) (by kernel_rfl) (fun _ _ _ h => h) (Or.inl ⟨by rfl, ?_⟩) hH ?_
  rotate_left
  · (intro v hS; obtain ⟨s2, s3⟩ := hS; go_simp; try with_reducible rfl)
  simp only [Act.put, List.setIfInBounds_toArray, List.set_cons_zero, List.set_cons_succ, List.getElem_toArray, List.getElem_cons_succ, List.getElem_cons_zero]
  refine wpAnyH_take (i := 7) (v := ?_) rfl (by kernel_rfl) (by kernel_rfl) (by kernel_rfl) (fun _ _ _ h => h) (Or.inl ⟨by rfl, ?_⟩) hH ?_
  rotate_left
  · (intro v hS; obtain ⟨s2, s3⟩ := hS; go_simp; try with_reducible rfl)
  simp only [Act.put, List.setIfInBounds_toArray, List.set_cons_zero, List.set_cons_succ, List.getElem_toArray, List.getElem_cons_succ, List.getElem_cons_zero]
  refine wpAnyH_take (i := 8) (v := ?_) rfl (by kernel_rfl) (by kernel_rfl) (by kernel_rfl) (fun _ _ _ h => h) (Or.inl ⟨by rfl, ?_⟩) hH ?_
  rotate_left
  · (intro v hS; obtain ⟨s2, s3⟩ := hS; go_simp; try with_reducible rfl)
  simp only [Act.put, List.setIfInBounds_toArray, List.set_cons_zero, List.set_cons_succ, List.getElem_toArray, List.getElem_cons_succ, List.getElem_cons_zero]
  refine wpAnyH_take (i := 9) (v := ?_) rfl (by kernel_rfl) (by kernel_rfl) (by kernel_rfl) (fun _ _ _ h => h) (Or.inl ⟨by rfl, ?_⟩) hH ?_
  rotate_left
  · (intro v hS; obtain ⟨s2, s3⟩ := hS; go_simp; try with_reducible rfl)
  simp only [Act.put, List.setIfInBounds_toArray, List.set_cons_zero, List.set_cons_succ, List.getElem_toArray, List.getElem_cons_succ, List.getElem_cons_zero]
  refine wpAnyH_take (i := 10) (v := ?_) rfl (by kernel_rfl) (by kernel_rfl) (by kernel_rfl) (fun _ _ _ h => h) (Or.inl ⟨by rfl, ?_⟩) hH ?_
  rotate_left
  · (intro v hS; obtain ⟨s2, s3⟩ := hS; go_simp; try with_reducible rfl)
  simp only [Act.put, List.setIfInBounds_toArray, List.set_cons_zero, List.set_cons_succ, List.getElem_toArray, List.getElem_cons_succ, List.getElem_cons_zero]
  refine wpAnyH_take (i := 11) (v := ?_) rfl (by kernel_rfl) (by kernel_rfl) (by kernel_rfl) (fun _ _ _ h => h) (Or.inl ⟨by rfl, ?_⟩) hH ?_
  rotate_left
  · (intro v hS; obtain ⟨s2, s3⟩ := hS; go_simp; try with_reducible rfl)
  simp only [Act.put, List.setIfInBounds_toArray, List.set_cons_zero, List.set_cons_succ, List.getElem_toArray, List.getElem_cons_succ, List.getElem_cons_zero]
  refine wpAnyH_take (i := 12) (v := ?_) rfl (by kernel_rfl) (by kernel_rfl) (by kernel_rfl) (fun _ _ _ h => h) (Or.inl ⟨by rfl, ?_⟩) hH ?_
  rotate_left
  · (intro v hS; obtain ⟨s2, s3⟩ := hS; go_simp; try with_reducible rfl)
  simp only [Act.put, List.setIfInBounds_toArray, List.set_cons_zero, List.set_cons_succ, List.getElem_toArray, List.getElem_cons_succ, List.getElem_cons_zero]
  refine wpAnyH_take (i := 13) (v := ?_) rfl (by kernel_rfl) (by kernel_rfl) (by kernel_rfl) (fun _ _ _ h => h) (Or.inl ⟨by rfl, ?_⟩) hH ?_
  rotate_left
  · (intro v hS; obtain ⟨s2, s3⟩ := hS; go_simp; try with_reducible rfl)
  simp only [Act.put, List.setIfInBounds_toArray, List.set_cons_zero, List.set_cons_succ, List.getElem_toArray, List.getElem_cons_succ, List.getElem_cons_zero]
  refine wpAnyH_take (i := 14) (v := ?_) rfl (by kernel_rfl) (by kernel_rfl) (by kernel_rfl) (fun _ _ _ h => h) (Or.inl ⟨by rfl, ?_⟩) hH ?_
  rotate_left
  · (intro v hS; obtain ⟨s2, s3⟩ := hS; go_simp; try with_reducible rfl)
  simp only [Act.put, List.setIfInBounds_toArray, List.set_cons_zero, List.set_cons_succ, List.getElem_toArray, List.getElem_cons_succ, List.getElem_cons_zero]
  refine wpAnyH_ready (rs := [4, 15]) (by kernel_rfl) (by simp) ?_
  refine AllReadyH.cons rfl (fun K hK => ?_) (AllReadyH.cons rfl (fun K hK => ?_) AllReadyH.nil)
  · have v4 := (five HP.out.1).1.2.2.2.2
    go_simp
    clear v4
    refine hK.out _ _ hH (fun hH0 => ?_)
    clear hK K hH0
    simp only [Act.put, List.setIfInBounds_toArray, List.set_cons_zero, List.set_cons_succ, List.getElem_toArray, List.getElem_cons_succ, List.getElem_cons_zero]
    refine wpAnyH_ready (rs := [15]) (by kernel_rfl) (by simp) ?_
    refine AllReadyH.cons rfl (fun K hK => ?_) AllReadyH.nil
    go_simp
    obtain ⟨hp, hl, T0, S0⟩ := HP.out
    have ga := World.grownBy_alloc u (.cells #[.int .i64 x, .int .i64 low, .int .i64 next] 59) none
    have NEW : Hid _ := three_new u 59 x low next
    have HQ : Hid _ := And.intro (blk0 ga hp) (And.intro (hl.kept ga (by simp)) (And.intro (T0.trans (Turns.of ga (.inl rfl))) (Nat.le_trans S0 ga.size)))
    have HH := hH.kept ga (by simp)
    clear HP hp hl T0 S0 ga hH
    refine hK.out _ _ HH (fun hH => ?_)
    clear hK K HH
    have HP := HQ
    clear HQ
    generalize u.alloc (.cells #[.int .i64 x, .int .i64 low, .int .i64 next] 59) = u' at *
    generalize u.heap.size = q at *
    clear u
    rename World => u
    simp only [Act.put, List.setIfInBounds_toArray, List.set_cons_zero, List.set_cons_succ, List.getElem_toArray, List.getElem_cons_succ, List.getElem_cons_zero]
    refine wpAnyH_ready (rs := [16]) (by kernel_rfl) (by simp) ?_
    refine AllReadyH.cons rfl (fun K hK => ?_) AllReadyH.nil
    obtain ⟨hp, hl, T0, S0⟩ := HP.out
    obtain ⟨i0, hi, hz0, hz1, hz2⟩ := info_parts infoA
    refine step_push rfl (.tmp 22) (.tmp 33) 24 rfl 59 i0 (.agg #[.int .i64 0, .int .i64 0, .int .i64 0]) Tryd.underlying24 hi hz0 hz1 hz2 rfl g 3999 (d - 1) (some ⟨g, off + 3, none⟩) (ls.drop 3) rfl hl (by omega) ⟨q, 0, none⟩ rfl x low next NEW.out ?_
    intro b' d' g' u' hg' hl' kg
    have hp' := (kg.block p (lt_of_block hp) (by simp; omega)).trans hp
    have HQ : Hid _ := And.intro hp' (And.intro hl' (And.intro (T0.trans (Turns.of kg (.inr (.inr rfl)))) (show g' = g ∨ w.heap.size ≤ g' by omega)))
    have HH := hH.kept kg (by simp; omega)
    have gp' : g' ≠ p := by have := lt_of_block hp; omega
    clear HP NEW hp hl T0 S0 hg' hl' kg hp' hH hi hz0 hz1 hz2 i0
    refine hK.out _ _ HH (fun hH => ?_)
    clear hK K HH
    clear u
    rename World => u
    simp only [Act.put, List.setIfInBounds_toArray, List.set_cons_zero, List.set_cons_succ, List.getElem_toArray, List.getElem_cons_succ, List.getElem_cons_zero]
    refine wpAnyH_take (i := 17) (v := ?_) rfl (by kernel_rfl) (by kernel_rfl) (by kernel_rfl) (fun _ _ _ h => h) (Or.inl ⟨by rfl, ?_⟩) hH ?_
    rotate_left
    · (intro v hS; obtain ⟨s2, s3⟩ := hS; go_simp; try with_reducible rfl)
    simp only [Act.put, List.setIfInBounds_toArray, List.set_cons_zero, List.set_cons_succ, List.getElem_toArray, List.getElem_cons_succ, List.getElem_cons_zero]
    refine wpAnyH_take (i := 18) (v := ?_) rfl (by kernel_rfl) (by kernel_rfl) (by kernel_rfl) (fun _ _ _ h => h) (Or.inl ⟨by rfl, ?_⟩) hH ?_
    rotate_left
    · (intro v hS; obtain ⟨s2, s3⟩ := hS; go_simp; try with_reducible rfl)
    simp only [Act.put, List.setIfInBounds_toArray, List.set_cons_zero, List.set_cons_succ, List.getElem_toArray, List.getElem_cons_succ, List.getElem_cons_zero]
    obtain ⟨hp, hl, T0, S0⟩ := HQ.out
    obtain ⟨⟨z0, z1, z2, z3, z4⟩, f0, f1, f2, f3, f4⟩ := five hp
    have kg := grown_setCell u p 4 (.slice b' (3999 + 1) d')
    have hp' := heap_setCell_same u p 4 _ 26 (.slice b' (3999 + 1) d') hp
    have HH : Hid (Two p low next (u.setCell ⟨p, 4, none⟩ (.slice b' (3999 + 1) d'))) := ⟨(five hp').1.2.2.1, (five hp').1.2.2.2.1⟩
    have FIN : Hid _ := And.intro hp' (And.intro (hl.kept kg (by simp; omega)) (And.intro (T0.trans (Turns.of kg (.inr (.inl rfl)))) S0))
    clear HQ hp hl T0 S0 kg hp' hH
    refine wpAnyH_ready (rs := [19]) (by kernel_rfl) (by simp) ?_
    refine AllReadyH.cons rfl (fun K hK => ?_) AllReadyH.nil
    go_simp
    refine hK.out _ _ HH.out (fun _ => ?_)
    clear hK K
    refine wpAnyH_done (by kernel_rfl) ?_ _
    (try go_wp2)
    (try simp only [Exit.inBlock, Exit.then])
    refine bodyPost_end (results_none (P := Tryd.prog) Tryd.results47 _ _) rfl ?_
    obtain ⟨y1, y2, y3, y4⟩ := FIN.out
    exact ⟨rfl, b', d', g', y1, y2, y4, y3⟩
  · go_simp
    obtain ⟨hp, hl, T0, S0⟩ := HP.out
    have ga := World.grownBy_alloc u (.cells #[.int .i64 x, .int .i64 low, .int .i64 next] 59) none
    have NEW : Hid _ := three_new u 59 x low next
    have HQ : Hid _ := And.intro (blk0 ga hp) (And.intro (hl.kept ga (by simp)) (And.intro (T0.trans (Turns.of ga (.inl rfl))) (Nat.le_trans S0 ga.size)))
    have HH := hH.kept ga (by simp)
    clear HP hp hl T0 S0 ga hH
    refine hK.out _ _ HH (fun hH => ?_)
    clear hK K HH
    have HP := HQ
    clear HQ
    generalize u.alloc (.cells #[.int .i64 x, .int .i64 low, .int .i64 next] 59) = u' at *
    generalize u.heap.size = q at *
    clear u
    rename World => u
    simp only [Act.put, List.setIfInBounds_toArray, List.set_cons_zero, List.set_cons_succ, List.getElem_toArray, List.getElem_cons_succ, List.getElem_cons_zero]
    refine wpAnyH_ready (rs := [4]) (by kernel_rfl) (by simp) ?_
    refine AllReadyH.cons rfl (fun K hK => ?_) AllReadyH.nil
    have v4 := (five HP.out.1).1.2.2.2.2
    go_simp
    clear v4
    refine hK.out _ _ hH (fun hH0 => ?_)
    clear hK K hH0
    simp only [Act.put, List.setIfInBounds_toArray, List.set_cons_zero, List.set_cons_succ, List.getElem_toArray, List.getElem_cons_succ, List.getElem_cons_zero]
    refine wpAnyH_ready (rs := [16]) (by kernel_rfl) (by simp) ?_
    refine AllReadyH.cons rfl (fun K hK => ?_) AllReadyH.nil
    obtain ⟨hp, hl, T0, S0⟩ := HP.out
    obtain ⟨i0, hi, hz0, hz1, hz2⟩ := info_parts infoA
    refine step_push rfl (.tmp 22) (.tmp 33) 24 rfl 59 i0 (.agg #[.int .i64 0, .int .i64 0, .int .i64 0]) Tryd.underlying24 hi hz0 hz1 hz2 rfl g 3999 (d - 1) (some ⟨g, off + 3, none⟩) (ls.drop 3) rfl hl (by omega) ⟨q, 0, none⟩ rfl x low next NEW.out ?_
    intro b' d' g' u' hg' hl' kg
    have hp' := (kg.block p (lt_of_block hp) (by simp; omega)).trans hp
    have HQ : Hid _ := And.intro hp' (And.intro hl' (And.intro (T0.trans (Turns.of kg (.inr (.inr rfl)))) (show g' = g ∨ w.heap.size ≤ g' by omega)))
    have HH := hH.kept kg (by simp; omega)
    have gp' : g' ≠ p := by have := lt_of_block hp; omega
    clear HP NEW hp hl T0 S0 hg' hl' kg hp' hH hi hz0 hz1 hz2 i0
    refine hK.out _ _ HH (fun hH => ?_)
    clear hK K HH
    clear u
    rename World => u
    simp only [Act.put, List.setIfInBounds_toArray, List.set_cons_zero, List.set_cons_succ, List.getElem_toArray, List.getElem_cons_succ, List.getElem_cons_zero]
    refine wpAnyH_take (i := 17) (v := ?_) rfl (by kernel_rfl) (by kernel_rfl) (by kernel_rfl) (fun _ _ _ h => h) (Or.inl ⟨by rfl, ?_⟩) hH ?_
    rotate_left
    · (intro v hS; obtain ⟨s2, s3⟩ := hS; go_simp; try with_reducible rfl)
    simp only [Act.put, List.setIfInBounds_toArray, List.set_cons_zero, List.set_cons_succ, List.getElem_toArray, List.getElem_cons_succ, List.getElem_cons_zero]
    refine wpAnyH_take (i := 18) (v := ?_) rfl (by kernel_rfl) (by kernel_rfl) (by kernel_rfl) (fun _ _ _ h => h) (Or.inl ⟨by rfl, ?_⟩) hH ?_
    rotate_left
    · (intro v hS; obtain ⟨s2, s3⟩ := hS; go_simp; try with_reducible rfl)
    simp only [Act.put, List.setIfInBounds_toArray, List.set_cons_zero, List.set_cons_succ, List.getElem_toArray, List.getElem_cons_succ, List.getElem_cons_zero]
    obtain ⟨hp, hl, T0, S0⟩ := HQ.out
    obtain ⟨⟨z0, z1, z2, z3, z4⟩, f0, f1, f2, f3, f4⟩ := five hp
    have kg := grown_setCell u p 4 (.slice b' (3999 + 1) d')
    have hp' := heap_setCell_same u p 4 _ 26 (.slice b' (3999 + 1) d') hp
    have HH : Hid (Two p low next (u.setCell ⟨p, 4, none⟩ (.slice b' (3999 + 1) d'))) := ⟨(five hp').1.2.2.1, (five hp').1.2.2.2.1⟩
    have FIN : Hid _ := And.intro hp' (And.intro (hl.kept kg (by simp; omega)) (And.intro (T0.trans (Turns.of kg (.inr (.inl rfl)))) S0))
    clear HQ hp hl T0 S0 kg hp' hH
    refine wpAnyH_ready (rs := [19]) (by kernel_rfl) (by simp) ?_
    refine AllReadyH.cons rfl (fun K hK => ?_) AllReadyH.nil
    go_simp
    refine hK.out _ _ HH.out (fun _ => ?_)
    clear hK K
    refine wpAnyH_done (by kernel_rfl) ?_ _
    (try go_wp2)
    (try simp only [Exit.inBlock, Exit.then])
    refine bodyPost_end (results_none (P := Tryd.prog) Tryd.results47 _ _) rfl ?_
    obtain ⟨y1, y2, y3, y4⟩ := FIN.out
    exact ⟨rfl, b', d', g', y1, y2, y4, y3⟩

theorem noteT (p n m c d g : Nat) (a b : Option Addr) (half low next x : Int) (ls : List Int) (w : World) (hp : w.heap[p]? = some (.cells #[.slice a n c, .int .i64 half, .int .i64 low, .int .i64 next, .slice b m d] 26 (0, 0))) (hl : LogI w 59 g b m d ls) (hm : m ≤ 4000) (hgp : g ≠ p) :
    Calls Tryd.prog 48 #[.pointer (some ⟨p, 0, none⟩), .int .i64 x] w fun e w' => e = .returned (.tuple #[]) ∧ ∃ b' d' g', w'.heap[p]? = some (.cells #[.slice a n c, .int .i64 half, .int .i64 low, .int .i64 next, .slice b' (pushM m) d'] 26 (0, 0)) ∧ LogI w' 59 g' b' (pushM m) d' (pushL m ls x low next) ∧ (g' = g ∨ w.heap.size ≤ g') ∧ Turns w w' p g := by
  by_cases h : m = 4000
  · subst h
    obtain ⟨off, rfl⟩ : ∃ off, b = some ⟨g, off, none⟩ := by
      rcases hl.2 with ⟨_, h, _⟩ | ⟨off, cur, h, _⟩
      · omega
      · exact ⟨off, h⟩
    exact note2 p n c d g off a half low next x ls w hp hl hgp
  · have e1 : pushM m = m + 1 := if_neg h
    have e2 : pushL m ls x low next = ls ++ [x, low, next] := by unfold pushL; rw [if_neg h]
    rw [e1, e2]
    exact note1 p n m c d g a b half low next x ls w hp hl (by omega) hgp

theorem slogT (p n m c d g : Nat) (a b : Option Addr) (half low next x : Int) (ls : List Int) (w : World) (hp : w.heap[p]? = some (.cells #[.slice a n c, .int .i64 half, .int .i64 low, .int .i64 next, .slice b m d] 26 (0, 0))) (hl : LogI w 59 g b m d ls) (hm : m ≤ 4000) (hgp : g ≠ p) :
    Calls Tryd.prog 47 #[.pointer (some ⟨p, 0, none⟩), .int .i64 x] w fun e w' => e = .returned (.tuple #[]) ∧ ∃ b' d' g', w'.heap[p]? = some (.cells #[.slice a n c, .int .i64 half, .int .i64 low, .int .i64 next, .slice b' (pushM m) d'] 26 (0, 0)) ∧ LogI w' 59 g' b' (pushM m) d' (pushL m ls x low next) ∧ (g' = g ∨ w.heap.size ≤ g') ∧ Turns w w' p g := by
  by_cases h : m = 4000
  · subst h
    obtain ⟨off, rfl⟩ : ∃ off, b = some ⟨g, off, none⟩ := by
      rcases hl.2 with ⟨_, h, _⟩ | ⟨off, cur, h, _⟩
      · omega
      · exact ⟨off, h⟩
    exact slog2 p n c d g off a half low next x ls w hp hl hgp
  · have e1 : pushM m = m + 1 := if_neg h
    have e2 : pushL m ls x low next = ls ++ [x, low, next] := by unfold pushL; rw [if_neg h]
    rw [e1, e2]
    exact slog1 p n m c d g a b half low next x ls w hp hl (by omega) hgp
end Go.Proofs.YtonmcndedbmbfaaDoor.By
