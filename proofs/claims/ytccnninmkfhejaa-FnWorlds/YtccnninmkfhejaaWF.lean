/-
  (*World).find by its contract. No statement is proved here.
-/
import Derived.Test.YtccnninmkfhejaaWT
namespace Go.Proofs.Ytccnninmkfhejaa.By
open Go.RowKit
set_option linter.unusedVariables false
set_option linter.unusedSimpArgs false
attribute [local go_sem] Oper.semAt_some

/-- The place of a key: k entries are less, the one there (if there is one) is not. -/
def Fnd (xs : List REntry) (key : Int) (k : Nat) (b : Bool) : Prop :=
  k ≤ xs.length ∧ (∀ i, i < k → keyAt xs i < key) ∧ (k < xs.length → key ≤ keyAt xs k) ∧ b = decide (k < xs.length ∧ keyAt xs k = key)

set_option maxRecDepth 100000 in
set_option maxHeartbeats 4000000 in
theorem findT (xs : List REntry) (key : Int) (a : Option Addr) (l c p : Nat) (w : World) (hp : w.cell? ⟨p, 2, none⟩ = some (.slice a l c)) (h : SlEntry w a l xs) :
    Calls Try.prog 79 #[.pointer (some ⟨p, 0, none⟩), .int .i64 key] w fun e u => (∃ k b, e = .returned (.tuple #[.int .i64 (k : Nat), .bool b]) ∧ Fnd xs key k b) ∧ w.grownBy u none := by
  have hpl : p < w.heap.size := World.block_lt_of_cell? w ⟨p, 2, none⟩ hp
  refine callsIn_wide (n := 3) |>.1 (callsIn_of_wp_marks Try.func79 rfl trivial ?_ rfl)
  simp only [Try.ntmps79, List.size_toArray, List.length_cons, List.length_nil, Nat.reduceAdd, Nat.reduceSub, Array.replicate_succ, Array.replicate_zero, List.push_toArray, List.append_toArray, List.nil_append, List.cons_append]
  have HH : Hid (SlEntry w a l xs ∧ w.cell? ⟨p, 2, none⟩ = some (.slice a l c)) := ⟨h, hp⟩
  clear h hp
  gi_wp2
  have bK := ((Boxed.new w 3 (.int .i64 key)).alloc (.cells #[.int .i64 0] 3)).alloc (.cells #[.bool false] 4)
  have bR := (Boxed.new (w.alloc (.cells #[.int .i64 key] 3)) 3 (.int .i64 0)).alloc (.cells #[.bool false] 4)
  have bS := Boxed.new ((w.alloc (.cells #[.int .i64 key] 3)).alloc (.cells #[.int .i64 0] 3)) 4 (.bool false)
  simp only [World.size_alloc] at bR bS
  have hB0 : Below w.heap.size w (((w.alloc (.cells #[.int .i64 key] 3)).alloc (.cells #[.int .i64 0] 3)).alloc (.cells #[.bool false] 4)) := (((Below.refl _ w).alloc (Nat.le_refl _) _).alloc (by simp) _).alloc (by simp; omega) _
  have hsz : (((w.alloc (.cells #[.int .i64 key] 3)).alloc (.cells #[.int .i64 0] 3)).alloc (.cells #[.bool false] 4)).heap.size = w.heap.size + 3 := by simp
  obtain ⟨W0, hW0⟩ : ∃ W0, ((w.alloc (.cells #[.int .i64 key] 3)).alloc (.cells #[.int .i64 0] 3)).alloc (.cells #[.bool false] 4) = W0 := ⟨_, rfl⟩
  rw [hW0] at bK bR bS hB0 hsz ⊢
  clear hW0
  have HS := HH.out.1.none (below_grown hB0)
  have hp0 := (hB0.cell (p := ⟨p, 2, none⟩) hpl).trans HH.out.2
  refine wpIn_ranged (gf := 77) (recv := .pointer (some ⟨p, 0, none⟩)) rfl (enters_of Try.func77 (by kernel_rfl) rfl)
    (entries_stops xs a l c p W0.heap.size W0 (Nat.le_refl _) (by omega) hp0 HS (fun b o e hl => ?_)) (fun _ => rfl)
    (fun k => ∀ i, i < k → keyAt xs i < key) (fun k W => Below w.heap.size w W ∧ (Boxed W (w.heap.size + 1) 3 (.int .i64 k) ∧ Boxed W (w.heap.size + 1 + 1) 4 (.bool (decide (keyAt xs k = key)))) ∧ (∀ i, i < k → keyAt xs i < key) ∧ key ≤ keyAt xs k) ?hIx (fun i hi => by omega)
    (fun k q => { tmps := #[.pointer (some ⟨p, 0, none⟩), .int .i64 key, undef, .pointer (some ⟨w.heap.size, 0, none⟩), .pointer (some ⟨w.heap.size + 1, 0, none⟩), .pointer (some ⟨w.heap.size + 1 + 1, 0, none⟩), .int .i64 k, .pointer (some ⟨q, 0, none⟩), .pointer (some ⟨p, 0, none⟩), .func (.func 77) #[.pointer (some ⟨p, 0, none⟩)] #[], .int .i64 k, .agg #[.int .i64 (keyAt xs k), .int .i64 (valAt xs k)], undef, undef, undef, undef, undef, undef, undef, undef, undef, undef, undef, undef, undef, undef], defers := [] })
    (objE xs) ?assign ?body ?done ?stop
  · rcases HS.cases with ⟨rfl, -⟩ | ⟨b', o', rfl, hin, -⟩
    · omega
    · cases e
      cases xs with
      | nil => have := HS.1; simp at this; omega
      | cons x r => exact World.block_lt_of_cell? W0 _ (hin.at (k := 0) (by simp)).1
  case hIx =>
    rintro k W j o o' hj ho ⟨h1, ⟨h2, h2'⟩, h3⟩
    exact ⟨putObj_below h1 (by omega) ho, ⟨(World.putObj_heap_other (by omega)).trans h2, (World.putObj_heap_other (by omega)).trans h2'⟩, h3⟩
  case assign =>
    intro L m k W K hk hK
    dsimp only [encE]
    gi_wp2
    exact hK
  case body =>
    intro L m k q W hk hi hB hq hqo
    have hqc : W.cell? ⟨q, 0, none⟩ = some (.int .i64 (keyAt xs k)) := by simp [World.cell?, hqo, objE]
    have hbK := Boxed.cell (show Boxed W w.heap.size 3 _ from (hB.block _ (by omega)).trans bK)
    have hbR : Boxed W (w.heap.size + 1) 3 (.int .i64 0) := (hB.block _ (by omega)).trans bR
    have hbS : Boxed W (w.heap.size + 1 + 1) 4 (.bool false) := (hB.block _ (by omega)).trans bS
    have hbw : Below w.heap.size w W := hB0.trans (hB.mono (by omega))
    have FX : Hid ((Boxed W (w.heap.size + 1) 3 (.int .i64 0) ∧ Boxed W (w.heap.size + 1 + 1) 4 (.bool false)) ∧ Below w.heap.size w W ∧ (∀ i, i < k → keyAt xs i < key) ∧ W0.heap.size = w.heap.size + 3 ∧ W0.heap.size ≤ q) := ⟨⟨hbR, hbS⟩, hbw, hi, hsz, hq⟩
    clear hB hqo HS hp0 hB0 bK bR bS hsz hi HH hbR hbS hbw hq
    have EI : Hid (keyAt xs k = keyAt xs k) := rfl
    obtain ⟨K0, hK0⟩ : ∃ K0, K0 = keyAt xs k := ⟨_, rfl⟩
    rw [← hK0] at hqc ⊢
    have E0 : Hid (K0 = keyAt xs k) := hK0
    clear hK0
    by_cases hle : key ≤ K0
    · gi_wp2
      have D0 : Hid (KeepsFrom W0.heap.size W W.drew) := ⟨Nat.le_refl _, fun _ _ _ h _ => h⟩
      refine wpIn_round_held (S := fun u => u.cell? ⟨q, 0, none⟩ = some (.int .i64 K0) ∧ u.cell? ⟨w.heap.size, 0, none⟩ = some (.int .i64 key)) (by simp) (fun ⟨_, _, h⟩ => h) (by kernel_rfl) ⟨hqc, hbK⟩ (fun hH => ?_)
      have FX2 : Hid ((Boxed W.drew (w.heap.size + 1) 3 (.int .i64 0) ∧ Boxed W.drew (w.heap.size + 1 + 1) 4 (.bool false)) ∧ Below w.heap.size w W.drew ∧ (∀ i, i < k → keyAt xs i < key) ∧ W0.heap.size = w.heap.size + 3 ∧ W0.heap.size ≤ q) := ⟨FX.out.1, FX.out.2.1.drew, FX.out.2.2⟩
      have hqq : W0.heap.size ≤ q := FX.out.2.2.2.2
      have hss : W0.heap.size = w.heap.size + 3 := FX.out.2.2.2.1
      clear FX hqc hbK
      generalize W.drew = u at *
      simp only [List.size_toArray, List.length_cons, List.length_nil, Nat.reduceAdd, Array.replicate, List.replicate]
      refine wpAnyH_take (i := 0) (v := ?_) rfl (by kernel_rfl) (by kernel_rfl) (by kernel_rfl) (fun _ _ _ h => h) (Or.inl ⟨by rfl, ?_⟩) hH ?_
      rotate_left
      · (intro v hS; obtain ⟨s0, s1⟩ := hS; go_simp; try with_reducible rfl)
      simp only [Act.put, List.setIfInBounds_toArray, List.set_cons_zero, List.set_cons_succ, List.getElem_toArray, List.getElem_cons_succ, List.getElem_cons_zero]
      refine wpAnyH_take (i := 1) (v := ?_) rfl (by kernel_rfl) (by kernel_rfl) (by kernel_rfl) (fun _ _ _ h => h) (Or.inl ⟨by rfl, ?_⟩) hH ?_
      rotate_left
      · (intro v hS; obtain ⟨s0, s1⟩ := hS; go_simp; try with_reducible rfl)
      simp only [Act.put, List.setIfInBounds_toArray, List.set_cons_zero, List.set_cons_succ, List.getElem_toArray, List.getElem_cons_succ, List.getElem_cons_zero]
      refine wpAnyH_take (i := 2) (v := ?_) rfl (by kernel_rfl) (by kernel_rfl) (by kernel_rfl) (fun _ _ _ h => h) (Or.inl ⟨by rfl, ?_⟩) hH ?_
      rotate_left
      · (intro v hS; obtain ⟨s0, s1⟩ := hS; go_simp; try with_reducible rfl)
      simp only [Act.put, List.setIfInBounds_toArray, List.set_cons_zero, List.set_cons_succ, List.getElem_toArray, List.getElem_cons_succ, List.getElem_cons_zero]
      refine wpAnyH_take (i := 3) (v := ?_) rfl (by kernel_rfl) (by kernel_rfl) (by kernel_rfl) (fun _ _ _ h => h) (Or.inl ⟨by rfl, ?_⟩) hH ?_
      rotate_left
      · (intro v hS; obtain ⟨s0, s1⟩ := hS; go_simp; try with_reducible rfl)
      simp only [Act.put, List.setIfInBounds_toArray, List.set_cons_zero, List.set_cons_succ, List.getElem_toArray, List.getElem_cons_succ, List.getElem_cons_zero]
      refine wpAnyH_take (i := 4) (v := ?_) rfl (by kernel_rfl) (by kernel_rfl) (by kernel_rfl) (fun _ _ _ h => h) (Or.inl ⟨by rfl, ?_⟩) hH ?_
      rotate_left
      · (intro v hS; obtain ⟨s0, s1⟩ := hS; go_simp; try with_reducible rfl)
      simp only [Act.put, List.setIfInBounds_toArray, List.set_cons_zero, List.set_cons_succ, List.getElem_toArray, List.getElem_cons_succ, List.getElem_cons_zero]
      have cR := FX2.out.1.1.cell
      have fR := FX2.out.1.1.frozen
      refine wpAnyH_ready (rs := [5]) (by kernel_rfl) (by simp) ?_
      refine AllReadyH.cons rfl (fun K hK => ?_) AllReadyH.nil
      go_simp
      have bR2 : Boxed (u.setCell ⟨w.heap.size + 1, 0, none⟩ (.int .i64 k)) (w.heap.size + 1) 3 (.int .i64 k) := FX2.out.1.1.set _
      have bS2 : Boxed (u.setCell ⟨w.heap.size + 1, 0, none⟩ (.int .i64 k)) (w.heap.size + 1 + 1) 4 (.bool false) := FX2.out.1.2.other (by omega) _
      have nq : w.heap.size + 1 ≠ q := by have := FX2.out.2.2.2; omega
      refine hK.out _ _ ⟨(World.cell?_setCell_far _ _ _ _ (by show w.heap.size + 1 ≠ q; exact nq)).trans hH.1, (World.cell?_setCell_far _ _ _ _ (by show w.heap.size + 1 ≠ w.heap.size; omega)).trans hH.2⟩ (fun hH2 => ?_)
      clear hK K hH cR fR
      have hH := hH2
      clear hH2
      have FX3 : Hid (KeepsFrom W0.heap.size W (u.setCell ⟨w.heap.size + 1, 0, none⟩ (.int .i64 k)) ∧ Below w.heap.size w (u.setCell ⟨w.heap.size + 1, 0, none⟩ (.int .i64 k)) ∧ (∀ i, i < k → keyAt xs i < key)) := ⟨D0.out.trans ((KeepsOthers.setCell _ _ _).from _), FX2.out.2.1.setCell (p := ⟨w.heap.size + 1, 0, none⟩) (by simp) _, FX2.out.2.2.1⟩
      clear D0 FX2
      generalize u.setCell ⟨w.heap.size + 1, 0, none⟩ (.int .i64 k) = z at *
      simp only [Act.put, List.setIfInBounds_toArray, List.set_cons_zero, List.set_cons_succ, List.getElem_toArray, List.getElem_cons_succ, List.getElem_cons_zero]
      have cS := bS2.cell
      have fS := bS2.frozen
      refine wpAnyH_ready (rs := [6]) (by kernel_rfl) (by simp) ?_
      refine AllReadyH.cons rfl (fun K hK => ?_) AllReadyH.nil
      go_simp
      have ns : w.heap.size + 1 + 1 ≠ q := by have : W0.heap.size ≤ q := hqq; omega
      refine hK.out _ _ ⟨(World.cell?_setCell_far _ _ _ _ (by show w.heap.size + 1 + 1 ≠ q; exact ns)).trans hH.1, (World.cell?_setCell_far _ _ _ _ (by show w.heap.size + 1 + 1 ≠ w.heap.size; omega)).trans hH.2⟩ (fun hH2 => ?_)
      clear hK K hH hH2
      have FX4 : Hid (KeepsFrom W0.heap.size W (z.setCell ⟨w.heap.size + 1 + 1, 0, none⟩ (.bool (K0 == key))) ∧ Below w.heap.size w (z.setCell ⟨w.heap.size + 1 + 1, 0, none⟩ (.bool (K0 == key))) ∧ (Boxed (z.setCell ⟨w.heap.size + 1 + 1, 0, none⟩ (.bool (K0 == key))) (w.heap.size + 1) 3 (.int .i64 k) ∧ Boxed (z.setCell ⟨w.heap.size + 1 + 1, 0, none⟩ (.bool (K0 == key))) (w.heap.size + 1 + 1) 4 (.bool (decide (keyAt xs k = key)))) ∧ (∀ i, i < k → keyAt xs i < key) ∧ key ≤ keyAt xs k) := by
        refine ⟨FX3.out.1.trans ((KeepsOthers.setCell _ _ _).from _), FX3.out.2.1.setCell (p := ⟨w.heap.size + 1 + 1, 0, none⟩) (by simp; omega) _, ⟨bR2.other (by omega) _, ?_⟩, FX3.out.2.2, by rw [← E0.out]; exact hle⟩
        have := bS2.set (.bool (K0 == key))
        rw [← E0.out, show decide (K0 = key) = (K0 == key) from by by_cases e : K0 = key <;> simp [e]]
        exact this
      clear FX3 E0 bR2 bS2 cS fS
      generalize z.setCell ⟨w.heap.size + 1 + 1, 0, none⟩ (.bool (K0 == key)) = y at *
      simp only [Act.put, List.setIfInBounds_toArray, List.set_cons_zero, List.set_cons_succ, List.getElem_toArray, List.getElem_cons_succ, List.getElem_cons_zero]
      refine wpAnyH_done (by kernel_rfl) ?_ _
      gi_wp2
      exact ⟨FX4.out.1, FX4.out.2.1, FX4.out.2.2.1, FX4.out.2.2.2⟩
    · have hlt : ¬ key ≤ K0 := hle
      have GG : Hid (∀ i, i < k + 1 → keyAt xs i < key) := fun i hi => by
        by_cases e : i = k
        · subst e; rw [← E0.out]; omega
        · exact FX.out.2.2.1 i (by omega)
      clear FX E0
      gi_wp2
      exact ⟨KeepsFrom.refl _ _, Below.refl _ _, GG.out⟩
  case done =>
    intro D W hD hi hB hK
    have bR' : Boxed W (w.heap.size + 1) 3 (.int .i64 0) := (hB.block _ (by omega)).trans bR
    have bS' : Boxed W (w.heap.size + 1 + 1) 4 (.bool false) := (hB.block _ (by omega)).trans bS
    have cR := bR'.cell
    have fR := bR'.frozen
    have cS := bS'.cell
    have fS := bS'.frozen
    have hpW := (hB.cell (p := ⟨p, 2, none⟩) (by show p < _; omega)).trans hp0
    have hll := HS.2.1
    have hbw : Below w.heap.size w W := hB0.trans (hB.mono (by omega))
    have bR2 : Boxed (W.setCell ⟨w.heap.size + 1, 0, none⟩ (.int .i64 l)) (w.heap.size + 1) 3 (.int .i64 l) := bR'.set _
    have bS2 : Boxed (W.setCell ⟨w.heap.size + 1, 0, none⟩ (.int .i64 l)) (w.heap.size + 1 + 1) 4 (.bool false) := bS'.other (by omega) _
    have bR3 := bR2.other (B' := w.heap.size + 1 + 1) (by omega) (.bool false)
    have bS3 := bS2.set (.bool false)
    have hK1 := (KeepsOthers.setCell W ⟨w.heap.size + 1, 0, none⟩ (.int .i64 l)).same D _ hK rfl
    have hK2 := (KeepsOthers.setCell (W.setCell ⟨w.heap.size + 1, 0, none⟩ (.int .i64 l)) ⟨w.heap.size + 1 + 1, 0, none⟩ (.bool false)).same D _ hK1 rfl
    have hb3 := (hbw.setCell (p := ⟨w.heap.size + 1, 0, none⟩) (by simp) (.int .i64 l)).setCell (p := ⟨w.heap.size + 1 + 1, 0, none⟩) (by simp; omega) (.bool false)
    have FX : Hid _ := And.intro bR3 (And.intro bS3 (And.intro hK2 hb3))
    clear bR2 bS2 bR3 bS3 hK1 hK2 hb3 bR' bS'
    gi_wp2
    obtain ⟨bR3, bS3, hK2, hb3⟩ := FX.out
    have hc5 := cell_kept bR3.cell (grownBy_putObj' _ D (.deferred none)) (fun r e => by cases e; exact ⟨_, hK2, rfl⟩)
    have hc6 := cell_kept bS3.cell (grownBy_putObj' _ D (.deferred none)) (fun r e => by cases e; exact ⟨_, hK2, rfl⟩)
    refine ⟨by simp, .inl ⟨_, _, rfl, run_takeDeferred hK2, ?_⟩⟩
    have hel := HS.1
    refine ⟨.tuple #[.int .i64 l, .bool false], ?_, ⟨l, false, rfl, by omega, fun i hh => hi i (by omega), fun hh => by omega, by simp; omega⟩, below_grown (putObj_below hb3 (by omega) hK2)⟩
    simp [results, Try.f79, go_sem, hc5, hc6]
  case stop =>
    intro D k W hD hk hx hK
    obtain ⟨hB, ⟨bR', bS'⟩, hf, hg⟩ := hx
    have hc5 := cell_kept bR'.cell (grownBy_putObj' _ D (.deferred none)) (fun r e => by cases e; exact ⟨_, hK, rfl⟩)
    have hc6 := cell_kept bS'.cell (grownBy_putObj' _ D (.deferred none)) (fun r e => by cases e; exact ⟨_, hK, rfl⟩)
    gi_wp2
    refine ⟨by simp, .inl ⟨_, _, rfl, run_takeDeferred hK, ?_⟩⟩
    refine ⟨.tuple #[.int .i64 k, .bool (decide (keyAt xs k = key))], ?_, ⟨k, _, rfl, by omega, hf, fun _ => hg, by simp [hk]⟩, below_grown (putObj_below hB (by omega) hK)⟩
    simp [results, Try.f79, go_sem, hc5, hc6]
end Go.Proofs.Ytccnninmkfhejaa.By
