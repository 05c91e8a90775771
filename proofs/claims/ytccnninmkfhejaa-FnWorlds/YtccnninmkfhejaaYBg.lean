/-
  One trace is the beginning of another one. No statement is proved here.
-/
import Derived.Test.YtccnninmkfhejaaSameAlso
namespace Go.Proofs.Ytccnninmkfhejaa.By
open Go.RowKit
set_option linter.unusedVariables false
set_option linter.unusedSimpArgs false

/-- Events as they lie, whose texts are read. -/
def InEvP (w : World) : List REvent → Nat → Nat → Prop
  | [], _, _ => True
  | x :: r, b, off => (∃ a l c, (w.cell? ⟨b, off, none⟩ = some (.int .i64 x.cap) ∧ w.cell? ⟨b, off + 1, none⟩ = some (.int .i64 x.a) ∧ w.cell? ⟨b, off + 2, none⟩ = some (.int .i64 x.b) ∧ w.cell? ⟨b, off + 3, none⟩ = some (.slice a l c) ∧ w.cell? ⟨b, off + 4, none⟩ = some (.int .i64 x.res)) ∧ RdB w a l x.lit ∧ Plain a) ∧ InEvP w r b (off + 5)
theorem InEvP.none {w u : World} (h : w.grownBy u Option.none) : ∀ {xs : List REvent} {b off : Nat}, InEvP w xs b off → InEvP u xs b off
  | [], _, _, _ => trivial
  | x :: r, b, off, ⟨⟨a, l, c, ⟨k0, k1, k2, k3, k4⟩, hd, hp⟩, hr⟩ => ⟨⟨a, l, c, ⟨h.cell k0 (by simp), h.cell k1 (by simp), h.cell k2 (by simp), h.cell k3 (by simp), h.cell k4 (by simp)⟩, hd.none h, hp⟩, InEvP.none h hr⟩
theorem inEvP_of {u : World} {hi : Nat} : ∀ {xs : List REvent} {vs : List Value} {lo b o : Nat}, EvO u hi xs vs lo → (∀ j x, vs[j]? = some x → u.cell? ⟨b, o + j, none⟩ = some x) → InEvP u xs b o
  | [], _, _, _, _, _, _ => trivial
  | x :: r, vs, lo, b, o, ⟨a, l, c, mid, vs', e, ⟨ho, hb, hl⟩, hm, hlm, hr⟩, h => by
    subst e
    have hp : Plain a := by
      rcases ho.2 with ⟨e, -⟩ | ⟨g, cap, cur, e, -⟩
      · cases e; exact .inl rfl
      · cases e; exact .inr ⟨_, _, rfl⟩
    refine ⟨⟨a, l, c, ⟨by simpa using h 0 _ rfl, h 1 _ rfl, h 2 _ rfl, h 3 _ rfl, h 4 _ rfl⟩, (own_rdB ho hb (by omega)).le CLe.unhidz, hp⟩, inEvP_of hr fun j y hj => ?_⟩
    have := h (j + 5) y (by simpa using hj)
    rw [show o + 5 + j = o + (j + 5) by omega]; exact this
theorem InEvP.left {w : World} : ∀ {xs ys : List REvent} {b off : Nat}, InEvP w (xs ++ ys) b off → InEvP w xs b off
  | [], _, _, _, _ => trivial
  | x :: r, ys, b, off, ⟨h1, h2⟩ => ⟨h1, InEvP.left h2⟩
theorem inEvP_last {w : World} {ev : REvent} : ∀ {xs : List REvent} {b off : Nat}, InEvP w (xs ++ [ev]) b off → w.cell? ⟨b, off + xs.length * 5, none⟩ = some (.int .i64 ev.cap) ∧ w.cell? ⟨b, off + xs.length * 5 + 4, none⟩ = some (.int .i64 ev.res)
  | [], b, off, ⟨⟨a, l, c, ⟨k0, k1, k2, k3, k4⟩, hd, hp⟩, hr⟩ => ⟨by simpa using k0, by simpa using k4⟩
  | x :: r, b, off, ⟨h1, h2⟩ => by
    have := inEvP_last (xs := r) h2
    rw [show off + (x :: r).length * 5 = off + 5 + r.length * 5 by simp; omega]
    exact this
/-- A trace of our own: nil, or its events. -/
theorem ow_tr {u : World} {B : Nat} {y : RWorld} {d1 : Option Addr} {m1 : Nat} {d2 : Option Addr} {m2 k2 : Nat} {d3 : Option Addr} {m3 k3 : Nat} {vs : List Value} {hi : Nat} (h : OwW u B y d1 m1 d2 m2 k2 d3 m3 k3 vs hi) : m3 = 0 ∨ ∃ b o, d3 = some ⟨b, o, none⟩ ∧ InEvP u y.trace b o := by
  rcases row_cell h.2.2.1 with h0 | ⟨g, e, -, -, hc⟩
  · exact .inl h0
  · exact .inr ⟨g, 0, e, inEvP_of h.2.2.2.1 fun j x hj => by rw [Nat.zero_add]; exact CLe.unhidz _ _ (hc j x hj)⟩

set_option maxRecDepth 4000 in
set_option maxHeartbeats 2000000 in
theorem sameEventT (x : REvent) (a a' : Option Addr) (l c c' : Nat) (w : World) (h : RdB w a l x.lit) (h' : RdB w a' l x.lit) (ha : Plain a) (ha' : Plain a') :
    Calls Try.prog 33 #[.agg #[.int .i64 x.cap, .int .i64 x.a, .int .i64 x.b, .slice a l c, .int .i64 x.res], .agg #[.int .i64 x.cap, .int .i64 x.a, .int .i64 x.b, .slice a' l c', .int .i64 x.res]] w fun e u => e = .returned (.bool true) ∧ w.grownBy u none := by
  obtain ⟨b0, b1, bsz⟩ := alloc2_blocks w (.cells #[.int .i64 x.cap, .int .i64 x.a, .int .i64 x.b, .slice a l c, .int .i64 x.res] 36) (.cells #[.int .i64 x.cap, .int .i64 x.a, .int .i64 x.b, .slice a' l c', .int .i64 x.res] 36)
  have g0 := grown_alloc (grown_alloc (World.grownBy.refl w none) (.cells #[.int .i64 x.cap, .int .i64 x.a, .int .i64 x.b, .slice a l c, .int .i64 x.res] 36)) (.cells #[.int .i64 x.cap, .int .i64 x.a, .int .i64 x.b, .slice a' l c', .int .i64 x.res] 36)
  have CS : Hid _ := sameT a a' l c c' x.lit _ (h.none g0).1 (h'.none g0).1 ha ha'
  have G0 : Hid (w.grownBy _ none) := g0
  obtain ⟨⟨y0, y1, y2, y3, y4⟩, -⟩ := blkEvent b0
  obtain ⟨⟨z0, z1, z2, z3, z4⟩, -⟩ := blkEvent b1
  clear h h' ha ha' g0 b0 b1 bsz
  go_enter Try.func33, Try.ntmps33
  go_wp2_with fail
  refine Calls.mono CS.out ?_
  rintro e u ⟨rfl, rfl⟩
  clear y0 y1 y2 y3 y4 z0 z1 z2 z3 z4 CS
  go_wp2
  go_ret
  exact ⟨rfl, G0.out⟩

set_option maxRecDepth 4000 in
set_option maxHeartbeats 4000000 in
theorem beginsT (xs : List REvent) (ev : REvent) (a a' : Option Addr) (l lb c c' : Nat) (w : World) (hlb : lb = l + 1) (hxl : xs.length = l) (hl : l ≤ 1000000) (h : l = 0 ∨ ∃ b o, a = some ⟨b, o, none⟩ ∧ InEvP w xs b o) (b' o' : Nat) (e' : a' = some ⟨b', o', none⟩) (h' : InEvP w (xs ++ [ev]) b' o') :
    Calls Try.prog 10 #[.slice a l c, .slice a' lb c'] w fun e u => e = .returned (.bool true) ∧ w.grownBy u none := by
  subst e'
  have HXL : Hid (xs.length = l) := hxl
  have HLB : Hid (lb = l + 1) := hlb
  have hgt : ¬ ((lb : Int) < (l : Int)) := by omega
  have hlb1 : l ≤ lb := by omega
  clear hxl hlb
  by_cases h0 : l = 0
  · subst h0
    clear h h' hl
    go_enter Try.func10, Try.ntmps10
    go_wp2
    refine wp_loop_rounds 1 ?_
    rw [rounds_succ]
    go_wp2
    go_ret
    exact ⟨rfl, World.grownBy.refl _ _⟩
  obtain ⟨b, o, rfl, hin⟩ : ∃ b o, a = some ⟨b, o, none⟩ ∧ InEvP w xs b o := by
    rcases h with h | h
    · exact absurd h h0
    · exact h
  have IN : Hid (InEvP w xs b o ∧ InEvP w (xs ++ [ev]) b' o') := ⟨hin, h'⟩
  clear hin h'
  go_enter Try.func10, Try.ntmps10
  go_wp2
  go_loopw [5] (fun i wr => ∃ (j : Nat) (R : List REvent), j ≤ l ∧ i = .int .i64 j ∧ Hid (w.grownBy wr none ∧ InEvP wr R b (o + j * 5) ∧ InEvP wr (R ++ [ev]) b' (o' + j * 5)) ∧ R.length + j = l) (fun i _ => l - (intOf i).toNat)
  case atStart => exact ⟨0, xs, Nat.zero_le _, rfl, ⟨World.grownBy.refl _ _, by simpa using IN.out.1, by simpa using IN.out.2⟩, by have := HXL.out; omega⟩
  case round =>
    obtain ⟨j, R, hj, rfl, HR, hRl⟩ := hrel
    by_cases hlt : j < l
    · have hjb : j < lb := by omega
      obtain ⟨x, R', rfl⟩ : ∃ x R', R = x :: R' := by
        cases R with
        | nil => simp at hRl; omega
        | cons x R' => exact ⟨x, R', rfl⟩
      obtain ⟨hg, ⟨⟨a1, l1, c1, ⟨k0, k1, k2, k3, k4⟩, hd, hp1⟩, hR2⟩, ⟨⟨f1, n1, g1, ⟨m0, m1, m2, m3, m4⟩, hd2, hp2⟩, hR3⟩⟩ := HR.out
      rw [show o + j * 5 + 5 = o + (j + 1) * 5 by omega] at hR2
      rw [show o' + j * 5 + 5 = o' + (j + 1) * 5 by omega] at hR3
      obtain rfl : l1 = n1 := by have := hd.1.1; have := hd2.1.1; omega
      have gd := grown_drew (World.grownBy.refl wr none)
      have CC : Hid _ := sameEventT x a1 f1 l1 c1 g1 wr.drew (hd.none gd) (hd2.none gd) hp1 hp2
      skip
      have TT : Hid (∀ u, wr.grownBy u none → ((u.cell? ⟨b, o + j * 5, none⟩ = some (.int .i64 x.cap) ∧ u.cell? ⟨b, o + j * 5 + 1, none⟩ = some (.int .i64 x.a) ∧ u.cell? ⟨b, o + j * 5 + 2, none⟩ = some (.int .i64 x.b) ∧ u.cell? ⟨b, o + j * 5 + 3, none⟩ = some (.slice a1 l1 c1) ∧ u.cell? ⟨b, o + j * 5 + 4, none⟩ = some (.int .i64 x.res)) ∧ u.cell? ⟨b', o' + j * 5, none⟩ = some (.int .i64 x.cap) ∧ u.cell? ⟨b', o' + j * 5 + 1, none⟩ = some (.int .i64 x.a) ∧ u.cell? ⟨b', o' + j * 5 + 2, none⟩ = some (.int .i64 x.b) ∧ u.cell? ⟨b', o' + j * 5 + 3, none⟩ = some (.slice f1 l1 g1) ∧ u.cell? ⟨b', o' + j * 5 + 4, none⟩ = some (.int .i64 x.res))) := fun u hu => ⟨⟨hu.cell k0 (by simp), hu.cell k1 (by simp), hu.cell k2 (by simp), hu.cell k3 (by simp), hu.cell k4 (by simp)⟩, hu.cell m0 (by simp), hu.cell m1 (by simp), hu.cell m2 (by simp), hu.cell m3 (by simp), hu.cell m4 (by simp)⟩
      have FX : Hid (w.grownBy wr.drew none ∧ InEvP wr.drew R' b (o + (j + 1) * 5) ∧ InEvP wr.drew (R' ++ [ev]) b' (o' + (j + 1) * 5) ∧ wr.grownBy wr.drew none) := ⟨grown_trans hg gd, InEvP.none gd hR2, InEvP.none gd hR3, gd⟩
      clear hd hd2 hR2 hR3 hg IN HR gd hp1 hp2 k0 k1 k2 k3 k4 m0 m1 m2 m3 m4
      simp only [List.length_cons] at hRl
      go_wp2_with fail
      refine wp_region_held_drew (S := (fun u => ((u.cell? ⟨b, o + j * 5, none⟩ = some (.int .i64 x.cap) ∧ u.cell? ⟨b, o + j * 5 + 1, none⟩ = some (.int .i64 x.a) ∧ u.cell? ⟨b, o + j * 5 + 2, none⟩ = some (.int .i64 x.b) ∧ u.cell? ⟨b, o + j * 5 + 3, none⟩ = some (.slice a1 l1 c1) ∧ u.cell? ⟨b, o + j * 5 + 4, none⟩ = some (.int .i64 x.res)) ∧ u.cell? ⟨b', o' + j * 5, none⟩ = some (.int .i64 x.cap) ∧ u.cell? ⟨b', o' + j * 5 + 1, none⟩ = some (.int .i64 x.a) ∧ u.cell? ⟨b', o' + j * 5 + 2, none⟩ = some (.int .i64 x.b) ∧ u.cell? ⟨b', o' + j * 5 + 3, none⟩ = some (.slice f1 l1 g1) ∧ u.cell? ⟨b', o' + j * 5 + 4, none⟩ = some (.int .i64 x.res)))) (by kernel_rfl) (TT.out _ FX.out.2.2.2) (fun hH => ?_)
      generalize wr.drew = u at *
      simp only [List.size_toArray, List.length_cons, List.length_nil, Nat.reduceAdd, Array.replicate, List.replicate]
      refine wpAnyH_take (i := 0) (v := ?_) rfl (by kernel_rfl) (by kernel_rfl) (by kernel_rfl) (fun _ _ _ h => h) (Or.inl ⟨by rfl, ?_⟩) hH ?_
      rotate_left
      · (intro v hS; obtain ⟨⟨s0, s1, s2, s3, s4⟩, t0, t1, t2, t3, t4⟩ := hS; go_simp; try with_reducible rfl)
      simp only [Act.put, List.setIfInBounds_toArray, List.set_cons_zero, List.set_cons_succ, List.getElem_toArray, List.getElem_cons_succ, List.getElem_cons_zero]
      refine wpAnyH_take (i := 1) (v := ?_) rfl (by kernel_rfl) (by kernel_rfl) (by kernel_rfl) (fun _ _ _ h => h) (Or.inl ⟨by rfl, ?_⟩) hH ?_
      rotate_left
      · (intro v hS; obtain ⟨⟨s0, s1, s2, s3, s4⟩, t0, t1, t2, t3, t4⟩ := hS; go_simp; try with_reducible rfl)
      simp only [Act.put, List.setIfInBounds_toArray, List.set_cons_zero, List.set_cons_succ, List.getElem_toArray, List.getElem_cons_succ, List.getElem_cons_zero]
      refine wpAnyH_take (i := 2) (v := ?_) rfl (by kernel_rfl) (by kernel_rfl) (by kernel_rfl) (fun _ _ _ h => h) (Or.inl ⟨by rfl, ?_⟩) hH ?_
      rotate_left
      · (intro v hS; obtain ⟨⟨s0, s1, s2, s3, s4⟩, t0, t1, t2, t3, t4⟩ := hS; go_simp; try with_reducible rfl)
      simp only [Act.put, List.setIfInBounds_toArray, List.set_cons_zero, List.set_cons_succ, List.getElem_toArray, List.getElem_cons_succ, List.getElem_cons_zero]
      refine wpAnyH_take (i := 3) (v := ?_) rfl (by kernel_rfl) (by kernel_rfl) (by kernel_rfl) (fun _ _ _ h => h) (Or.inl ⟨by rfl, ?_⟩) hH ?_
      rotate_left
      · (intro v hS; obtain ⟨⟨s0, s1, s2, s3, s4⟩, t0, t1, t2, t3, t4⟩ := hS; go_simp; try with_reducible rfl)
      simp only [Act.put, List.setIfInBounds_toArray, List.set_cons_zero, List.set_cons_succ, List.getElem_toArray, List.getElem_cons_succ, List.getElem_cons_zero]
      refine wpAnyH_take (i := 4) (v := ?_) rfl (by kernel_rfl) (by kernel_rfl) (by kernel_rfl) (fun _ _ _ h => h) (Or.inl ⟨by rfl, ?_⟩) hH ?_
      rotate_left
      · (intro v hS; obtain ⟨⟨s0, s1, s2, s3, s4⟩, t0, t1, t2, t3, t4⟩ := hS; go_simp; try with_reducible rfl)
      simp only [Act.put, List.setIfInBounds_toArray, List.set_cons_zero, List.set_cons_succ, List.getElem_toArray, List.getElem_cons_succ, List.getElem_cons_zero]
      refine wpAnyH_take (i := 5) (v := ?_) rfl (by kernel_rfl) (by kernel_rfl) (by kernel_rfl) (fun _ _ _ h => h) (Or.inl ⟨by rfl, ?_⟩) hH ?_
      rotate_left
      · (intro v hS; obtain ⟨⟨s0, s1, s2, s3, s4⟩, t0, t1, t2, t3, t4⟩ := hS; go_simp; try with_reducible rfl)
      simp only [Act.put, List.setIfInBounds_toArray, List.set_cons_zero, List.set_cons_succ, List.getElem_toArray, List.getElem_cons_succ, List.getElem_cons_zero]
      refine wpAnyH_take (i := 6) (v := ?_) rfl (by kernel_rfl) (by kernel_rfl) (by kernel_rfl) (fun _ _ _ h => h) (Or.inl ⟨by rfl, ?_⟩) hH ?_
      rotate_left
      · (intro v hS; obtain ⟨⟨s0, s1, s2, s3, s4⟩, t0, t1, t2, t3, t4⟩ := hS; go_simp; try with_reducible rfl)
      simp only [Act.put, List.setIfInBounds_toArray, List.set_cons_zero, List.set_cons_succ, List.getElem_toArray, List.getElem_cons_succ, List.getElem_cons_zero]
      refine wpAnyH_take (i := 7) (v := ?_) rfl (by kernel_rfl) (by kernel_rfl) (by kernel_rfl) (fun _ _ _ h => h) (Or.inl ⟨by rfl, ?_⟩) hH ?_
      rotate_left
      · (intro v hS; obtain ⟨⟨s0, s1, s2, s3, s4⟩, t0, t1, t2, t3, t4⟩ := hS; go_simp; try with_reducible rfl)
      simp only [Act.put, List.setIfInBounds_toArray, List.set_cons_zero, List.set_cons_succ, List.getElem_toArray, List.getElem_cons_succ, List.getElem_cons_zero]
      refine wpAnyH_ready (rs := [8]) (by kernel_rfl) (by simp) ?_
      refine AllReadyH.cons rfl (fun K hK => ?_) AllReadyH.nil
      go_simp
      refine Calls.mono CC.out ?_
      rintro e u2 ⟨he, hgu⟩
      subst he
      refine hK.out _ _ (TT.out _ (grown_trans FX.out.2.2.2 hgu)) (fun hH2 => ?_)
      clear hK K hH
      have hH := hH2
      clear hH2
      have FY : Hid (w.grownBy u2 none ∧ InEvP u2 R' b (o + (j + 1) * 5) ∧ InEvP u2 (R' ++ [ev]) b' (o' + (j + 1) * 5)) := ⟨grown_trans FX.out.1 hgu, InEvP.none hgu FX.out.2.1, InEvP.none hgu FX.out.2.2.1⟩
      clear FX hgu CC TT
      simp only [Act.put, List.setIfInBounds_toArray, List.set_cons_zero, List.set_cons_succ, List.getElem_toArray, List.getElem_cons_succ, List.getElem_cons_zero]
      refine wpAnyH_take (i := 9) (v := ?_) rfl (by kernel_rfl) (by kernel_rfl) (by kernel_rfl) (fun _ _ _ h => h) (Or.inl ⟨by rfl, ?_⟩) hH ?_
      rotate_left
      · (intro v hS; go_simp; try with_reducible rfl)
      simp only [Act.put, List.setIfInBounds_toArray, List.set_cons_zero, List.set_cons_succ, List.getElem_toArray, List.getElem_cons_succ, List.getElem_cons_zero]
      refine wpAnyH_done (by kernel_rfl) ?_ _
      go_wp2
      go_roundw
      case rel => exact ⟨j + 1, R', by omega, by go_num, FY, by omega⟩
      case measure => simp [intOf]; omega
    · obtain rfl : j = l := by omega
      have E : Hid (w.grownBy wr none) := HR.out.1
      clear HR IN
      go_wp2
      go_ret
      exact ⟨rfl, E.out⟩


theorem forV_sz2 (x : RWorld) (kind A C : Int) (lit : List Int) : szWorld (forV x kind A C lit).1 ≤ szWorld x + 130 := by
  unfold forV
  split
  · rename_i h
    simp only [forOk, takV, Bool.and_eq_true, decide_eq_true_eq] at h
    obtain ⟨-, ⟨⟨⟨h1, -⟩, -⟩, h2⟩, h3⟩ := h
    have cl := callV_len x kind A C lit
    have ce := callV_ev x kind A C lit
    have e1 : szEvents (x.trace ++ [(callV x kind A C lit).2]) ≤ szEvents x.trace + 65 := by rw [szEvents_app]; simp only [szEvents, szEvent]; omega
    show (callV x kind A C lit).1.draws.length + szEntrys (callV x kind A C lit).1.store + szEvents ((callV x kind A C lit).1.trace ++ [(callV x kind A C lit).2]) ≤ _
    unfold szWorld
    rw [szEntrys_eq, szEntrys_eq, ce.2]; omega
  · simp [szWorld, szEntrys, szEvents]
end Go.Proofs.Ytccnninmkfhejaa.By
