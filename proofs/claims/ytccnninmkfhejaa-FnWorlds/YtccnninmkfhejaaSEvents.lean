/-
  Lists of Event: how they lie in memory, how great they are, two that read the same compared, and their copies: the law's own helpers by their contracts. No statement is proved here.
-/
import Derived.Test.YtccnninmkfhejaaSEvent
import Derived.Test.YtccnninmkfhejaaSEntryAlso
import Derived.Deep.DeepCutAuto
import Derived.Deep.RegionHeld
namespace Go.Proofs.Ytccnninmkfhejaa.By
open Go.RowKit
set_option linter.unusedVariables false
set_option linter.unusedSimpArgs false

/-- Event from a cell on, 5 cells each; their parts are read in wp. -/
def InEvent (w wp : World) : List REvent → Nat → Nat → Prop
  | [], _, _ => True
  | x :: r, b, off => (∃ a1 l1 c1, (w.cell? ⟨b, off, none⟩ = some (.int .i64 x.cap) ∧ w.cell? ⟨b, off + 1, none⟩ = some (.int .i64 x.a) ∧ w.cell? ⟨b, off + 2, none⟩ = some (.int .i64 x.b) ∧ w.cell? ⟨b, off + 3, none⟩ = some (.slice a1 l1 c1) ∧ w.cell? ⟨b, off + 4, none⟩ = some (.int .i64 x.res)) ∧ RdEvent wp x a1 l1) ∧ InEvent w wp r b (off + 5)
def SlEvent (w : World) (a : Option Addr) (l : Nat) (xs : List REvent) : Prop :=
  xs.length = l ∧ l ≤ 9223372036854775807 ∧ (l = 0 ∨ ∃ b o, a = some ⟨b, o, none⟩ ∧ InEvent w w xs b o)
theorem InEvent.move {w wp u up : World} {xs : List REvent} {b off b' off' : Nat} (h : InEvent w wp xs b off) (hc : ∀ i v, i < xs.length * 5 → w.cell? ⟨b, off + i, none⟩ = some v → u.cell? ⟨b', off' + i, none⟩ = some v) (k : CLe wp up) : InEvent u up xs b' off' := by
  induction xs generalizing off off' with
  | nil => trivial
  | cons x r ih =>
    obtain ⟨⟨a1, l1, c1, ⟨h0, h1, h2, h3, h4⟩, hp⟩, hr⟩ := h
    refine ⟨⟨a1, l1, c1, ⟨by simpa using hc 0 _ (by simp) h0, hc 1 _ (by simp; omega) h1, hc 2 _ (by simp; omega) h2, hc 3 _ (by simp; omega) h3, hc 4 _ (by simp; omega) h4⟩, hp.le k⟩, ih hr (fun i v hi hv => ?_)⟩
    have := hc (i + 5) v (by simp; omega) (by rw [show off + (i + 5) = off + 5 + i by omega]; exact hv)
    rw [show off' + 5 + i = off' + (i + 5) by omega]; exact this
theorem InEvent.le {w wp u up : World} {xs : List REvent} {b off : Nat} (h : InEvent w wp xs b off) (k : CLe w u) (k2 : CLe wp up) : InEvent u up xs b off := h.move (fun i v _ hv => k _ _ hv) k2
theorem InEvent.app {w wp : World} {P Q : List REvent} {b off : Nat} (h : InEvent w wp P b off) (k : InEvent w wp Q b (off + P.length * 5)) : InEvent w wp (P ++ Q) b off := by
  induction P generalizing off with
  | nil => simpa using k
  | cons x r ih =>
    refine ⟨h.1, ih h.2 ?_⟩
    rw [show off + 5 + r.length * 5 = off + (x :: r).length * 5 by simp; omega]; exact k
theorem SlEvent.le {w u : World} {a : Option Addr} {l : Nat} {xs : List REvent} (h : SlEvent w a l xs) (k : CLe w u) : SlEvent u a l xs := by
  obtain ⟨h1, h2, h3⟩ := h
  refine ⟨h1, h2, ?_⟩
  rcases h3 with h3 | ⟨b, o, e, h3⟩
  · exact .inl h3
  · exact .inr ⟨b, o, e, h3.le k k⟩
theorem SlEvent.none {w u : World} {a : Option Addr} {l : Nat} {xs : List REvent} (h : SlEvent w a l xs) (k : w.grownBy u Option.none) : SlEvent u a l xs := h.le (CLe.grown k)
theorem SlEvent.cases {w : World} {a : Option Addr} {l : Nat} {xs : List REvent} (h : SlEvent w a l xs) : (l = 0 ∧ xs = []) ∨ ∃ b o, a = some ⟨b, o, Option.none⟩ ∧ InEvent w w xs b o ∧ 0 < l := by
  obtain ⟨h1, h2, h3⟩ := h
  by_cases h0 : l = 0
  · exact .inl ⟨h0, List.eq_nil_of_length_eq_zero (by omega)⟩
  · rcases h3 with h3 | ⟨b, o, e, h3⟩
    · exact absurd h3 h0
    · exact .inr ⟨b, o, e, h3, by omega⟩
def szEvents : List REvent → Nat
  | [] => 0
  | x :: r => 1 + szEvent x + szEvents r
theorem szEvents_len : ∀ xs : List REvent, xs.length ≤ szEvents xs
  | [] => Nat.le_refl _
  | x :: r => by have := szEvents_len r; simp only [List.length_cons, szEvents]; omega

set_option maxRecDepth 4000 in
set_option maxHeartbeats 4000000 in
theorem szEventsT (xs : List REvent) (a : Option Addr) (l c : Nat) (L : Int) (w : World) (h : SlEvent w a l xs) (h0 : 0 ≤ L) (h1 : L ≤ 1048576) :
    Calls Try.prog 36 #[.slice a l c, .int .i64 L] w fun e u => SzW L (szEvents xs) e ∧ w.grownBy u none := by
  have hlen := szEvents_len xs
  have hl := h.2.1
  have hfl := h.1
  by_cases hneg : L - (l : Int) < 0
  · go_enter Try.func36, Try.ntmps36
    go_wp2
    go_ret
    exact ⟨⟨-1, rfl, .inl rfl⟩, World.grownBy.refl _ _⟩
  rcases h.cases with ⟨rfl, rfl⟩ | ⟨b, o, rfl, hin, hpos⟩
  · go_enter Try.func36, Try.ntmps36
    go_wp2
    refine wp_loop_rounds 1 ?_
    rw [rounds_succ]
    go_wp2
    go_ret
    exact ⟨⟨_, rfl, .inr ⟨by omega, by simp [szEvents]⟩⟩, World.grownBy.refl _ _⟩
  have IN : Hid (InEvent w w xs b o) := hin
  clear hin h
  go_enter Try.func36, Try.ntmps36
  go_wp2
  go_loopw [1, 5] (fun v i wr => ∃ (j : Nat) (R : List REvent) (Lj : Int), j ≤ l ∧ i = .int .i64 j ∧ v = .int .i64 Lj ∧ 0 ≤ Lj ∧ Lj ≤ 1048576 ∧ Hid (w.grownBy wr none ∧ InEvent wr wr R b (o + j * 5)) ∧ R.length + j = l ∧ Hid (Lj - (szEvents R - R.length : Int) ≤ L - szEvents xs)) (fun _ i _ => l - (intOf i).toNat)
  case atStart =>
    refine ⟨0, xs, _, Nat.zero_le _, rfl, rfl, by omega, by omega, ⟨World.grownBy.refl _ _, by simpa using IN.out⟩, by omega, ?_⟩
    show (_ : Int) ≤ _
    omega
  case round =>
    obtain ⟨j, R, Lj, hj, rfl, rfl, hj0, hj1, HR, hRl, HV⟩ := hrel
    by_cases hlt : j < l
    · obtain ⟨x, R', rfl⟩ : ∃ x R', R = x :: R' := by
        cases R with
        | nil => simp at hRl; omega
        | cons x R' => exact ⟨x, R', rfl⟩
      obtain ⟨hg, ⟨a1, l1, c1, ⟨k0, k1, k2, k3, k4⟩, hd⟩, hR2⟩ := HR.out
      rw [show o + j * 5 + 5 = o + (j + 1) * 5 by omega] at hR2
      have CC : Hid _ := szEventT x a1 l1 c1 Lj wr hd hj0 hj1
      have FX : Hid (InEvent wr wr R' b (o + (j + 1) * 5) ∧ w.grownBy wr none) := ⟨hR2, hg⟩
      clear hd hR2 hg IN HR
      simp only [List.length_cons] at hRl
      skip
      go_wp2_with fail
      refine Calls.mono CC.out ?_
      rintro e u ⟨⟨r, he, hr⟩, hgu⟩
      subst he
      have FY : Hid (w.grownBy u none ∧ InEvent u u R' b (o + (j + 1) * 5)) := ⟨grown_trans FX.out.2 hgu, FX.out.1.le (CLe.grown hgu) (CLe.grown hgu)⟩
      have hl2 := szEvents_len R'
      have hv := HV.out
      simp only [szEvents, List.length_cons] at hv
      clear CC hgu FX k0 k1 k2 k3 k4 HV
      simp only []
      rcases hr with rfl | ⟨hr0, hr1⟩
      · go_wp2
        go_ret
        exact ⟨⟨-1, rfl, .inl rfl⟩, FY.out.1⟩
      · have HV2 : Hid (r - (szEvents R' - R'.length : Int) ≤ L - szEvents xs) := by show (_ : Int) ≤ _; omega
        clear hv
        go_wp2
        go_roundw
        case rel => exact ⟨j + 1, R', r, by omega, by go_num, rfl, by omega, by omega, FY, by omega, HV2⟩
        case measure => simp [intOf]; omega
    · obtain rfl : j = l := by omega
      obtain rfl : R = [] := List.eq_nil_of_length_eq_zero (by omega)
      have E : Hid ((Lj ≤ L - szEvents xs) ∧ w.grownBy wr none) := ⟨by have := HV.out; simp [szEvents] at this; omega, HR.out.1⟩
      clear HR IN HV
      go_wp2
      go_ret
      exact ⟨⟨Lj, rfl, .inr ⟨hj0, by have := E.out.1; omega⟩⟩, E.out.2⟩

set_option maxRecDepth 4000 in
set_option maxHeartbeats 4000000 in
theorem eqEventsT (xs : List REvent) (a a' : Option Addr) (l c c' : Nat) (w : World) (h : SlEvent w a l xs) (h' : SlEvent w a' l xs) (hs : szEvents xs ≤ 2097152) :
    Calls Try.prog 43 #[.slice a l c, .slice a' l c'] w fun e u => e = .returned (.bool true) ∧ w.grownBy u none := by
  have hl := h.2.1
  have hfl := h.1
  rcases h.cases with ⟨rfl, rfl⟩ | ⟨b, o, rfl, hin, hpos⟩
  · go_enter Try.func43, Try.ntmps43
    go_wp2
    refine wp_loop_rounds 1 ?_
    rw [rounds_succ]
    go_wp2
    go_ret
    exact ⟨rfl, World.grownBy.refl _ _⟩
  rcases h'.cases with ⟨rfl, rfl⟩ | ⟨b', o', rfl, hin', -⟩
  · exact absurd hpos (by omega)
  have IN : Hid (InEvent w w xs b o ∧ InEvent w w xs b' o') := ⟨hin, hin'⟩
  clear hin hin' h h'
  go_enter Try.func43, Try.ntmps43
  go_wp2
  go_loopw [5] (fun i wr => ∃ (j : Nat) (R : List REvent), j ≤ l ∧ i = .int .i64 j ∧ Hid (w.grownBy wr none ∧ InEvent wr wr R b (o + j * 5) ∧ InEvent wr wr R b' (o' + j * 5)) ∧ szEvents R ≤ 2097152 ∧ R.length + j = l) (fun i _ => l - (intOf i).toNat)
  case atStart => exact ⟨0, xs, Nat.zero_le _, rfl, ⟨World.grownBy.refl _ _, by simpa using IN.out.1, by simpa using IN.out.2⟩, hs, by omega⟩
  case round =>
    obtain ⟨j, R, hj, rfl, HR, hRs, hRl⟩ := hrel
    by_cases hlt : j < l
    · obtain ⟨x, R', rfl⟩ : ∃ x R', R = x :: R' := by
        cases R with
        | nil => simp at hRl; omega
        | cons x R' => exact ⟨x, R', rfl⟩
      obtain ⟨hg, ⟨⟨a1, l1, c1, ⟨k0, k1, k2, k3, k4⟩, hd⟩, hR2⟩, ⟨⟨f1, n1, g1, ⟨m0, m1, m2, m3, m4⟩, hd2⟩, hR3⟩⟩ := HR.out
      rw [show o + j * 5 + 5 = o + (j + 1) * 5 by omega] at hR2
      rw [show o' + j * 5 + 5 = o' + (j + 1) * 5 by omega] at hR3
      obtain rfl : l1 = n1 := by have := hd.1.1; have := hd2.1.1; omega
      simp only [szEvents] at hRs
      have gd := grown_drew (World.grownBy.refl wr none)
      have gc := CLe.grown gd
      have CC : Hid _ := eqEventT x a1 f1 l1 c1 g1 wr.drew (hd.none gd) (hd2.none gd) (by omega)
      skip
      have TT : Hid (∀ u, wr.grownBy u none → ((u.cell? ⟨b, o + j * 5, none⟩ = some (.int .i64 x.cap) ∧ u.cell? ⟨b, o + j * 5 + 1, none⟩ = some (.int .i64 x.a) ∧ u.cell? ⟨b, o + j * 5 + 2, none⟩ = some (.int .i64 x.b) ∧ u.cell? ⟨b, o + j * 5 + 3, none⟩ = some (.slice a1 l1 c1) ∧ u.cell? ⟨b, o + j * 5 + 4, none⟩ = some (.int .i64 x.res)) ∧ u.cell? ⟨b', o' + j * 5, none⟩ = some (.int .i64 x.cap) ∧ u.cell? ⟨b', o' + j * 5 + 1, none⟩ = some (.int .i64 x.a) ∧ u.cell? ⟨b', o' + j * 5 + 2, none⟩ = some (.int .i64 x.b) ∧ u.cell? ⟨b', o' + j * 5 + 3, none⟩ = some (.slice f1 l1 g1) ∧ u.cell? ⟨b', o' + j * 5 + 4, none⟩ = some (.int .i64 x.res))) := fun u hu => ⟨⟨hu.cell k0 (by simp), hu.cell k1 (by simp), hu.cell k2 (by simp), hu.cell k3 (by simp), hu.cell k4 (by simp)⟩, hu.cell m0 (by simp), hu.cell m1 (by simp), hu.cell m2 (by simp), hu.cell m3 (by simp), hu.cell m4 (by simp)⟩
      have FX : Hid (w.grownBy wr.drew none ∧ InEvent wr.drew wr.drew R' b (o + (j + 1) * 5) ∧ InEvent wr.drew wr.drew R' b' (o' + (j + 1) * 5) ∧ wr.grownBy wr.drew none) := ⟨grown_trans hg gd, hR2.le gc gc, hR3.le gc gc, gd⟩
      clear hd hd2 hR2 hR3 hg IN HR gd gc k0 k1 k2 k3 k4 m0 m1 m2 m3 m4
      simp only [List.length_cons] at hRl
      go_wp2_with fail
      refine wp_region_held_drew (S := (fun u => ((u.cell? ⟨b, o + j * 5, none⟩ = some (.int .i64 x.cap) ∧ u.cell? ⟨b, o + j * 5 + 1, none⟩ = some (.int .i64 x.a) ∧ u.cell? ⟨b, o + j * 5 + 2, none⟩ = some (.int .i64 x.b) ∧ u.cell? ⟨b, o + j * 5 + 3, none⟩ = some (.slice a1 l1 c1) ∧ u.cell? ⟨b, o + j * 5 + 4, none⟩ = some (.int .i64 x.res)) ∧ u.cell? ⟨b', o' + j * 5, none⟩ = some (.int .i64 x.cap) ∧ u.cell? ⟨b', o' + j * 5 + 1, none⟩ = some (.int .i64 x.a) ∧ u.cell? ⟨b', o' + j * 5 + 2, none⟩ = some (.int .i64 x.b) ∧ u.cell? ⟨b', o' + j * 5 + 3, none⟩ = some (.slice f1 l1 g1) ∧ u.cell? ⟨b', o' + j * 5 + 4, none⟩ = some (.int .i64 x.res)))) (by kernel_rfl) (TT.out _ FX.out.2.2.2) (fun hH => ?_)
      generalize wr.drew = u at *
      simp only [List.size_toArray, List.length_cons, List.length_nil, Nat.reduceAdd, Array.replicate, List.replicate]
      refine wpAnyH_take (i := 0) (v := ?_) rfl (by kernel_rfl) (by kernel_rfl) (by kernel_rfl) (fun _ _ _ h => h) (Or.inl ⟨by rfl, ?_⟩) hH ?_
      rotate_left
      · (intro v hS; obtain ⟨⟨s0, s1, s2, s3, s4⟩, t0, t1, t2, t3, t4⟩ := hS; go_simp; try with_reducible rfl)
      simp only [Act.put, List.setIfInBounds_toArray, List.set_cons_zero, List.set_cons_succ, List.getElem_toArray, List.getElem_cons_succ, List.getElem_cons_zero]
      refine wpAnyH_take (i := 1) (v := ?_) rfl (by kernel_rfl) (by kernel_rfl) (by kernel_rfl) (fun _ _ _ h => h) (Or.inl ⟨by rfl, ?_⟩) hH ?_
      rotate_left
      · (intro v hS; obtain ⟨⟨s0, s1, s2, s3, s4⟩, t0, t1, t2, t3, t4⟩ := hS; go_simp; try with_reducible rfl)
      simp only [Act.put, List.setIfInBounds_toArray, List.set_cons_zero, List.set_cons_succ, List.getElem_toArray, List.getElem_cons_succ, List.getElem_cons_zero]
      refine wpAnyH_take (i := 2) (v := ?_) rfl (by kernel_rfl) (by kernel_rfl) (by kernel_rfl) (fun _ _ _ h => h) (Or.inl ⟨by rfl, ?_⟩) hH ?_
      rotate_left
      · (intro v hS; obtain ⟨⟨s0, s1, s2, s3, s4⟩, t0, t1, t2, t3, t4⟩ := hS; go_simp; try with_reducible rfl)
      simp only [Act.put, List.setIfInBounds_toArray, List.set_cons_zero, List.set_cons_succ, List.getElem_toArray, List.getElem_cons_succ, List.getElem_cons_zero]
      refine wpAnyH_take (i := 3) (v := ?_) rfl (by kernel_rfl) (by kernel_rfl) (by kernel_rfl) (fun _ _ _ h => h) (Or.inl ⟨by rfl, ?_⟩) hH ?_
      rotate_left
      · (intro v hS; obtain ⟨⟨s0, s1, s2, s3, s4⟩, t0, t1, t2, t3, t4⟩ := hS; go_simp; try with_reducible rfl)
      simp only [Act.put, List.setIfInBounds_toArray, List.set_cons_zero, List.set_cons_succ, List.getElem_toArray, List.getElem_cons_succ, List.getElem_cons_zero]
      refine wpAnyH_take (i := 4) (v := ?_) rfl (by kernel_rfl) (by kernel_rfl) (by kernel_rfl) (fun _ _ _ h => h) (Or.inl ⟨by rfl, ?_⟩) hH ?_
      rotate_left
      · (intro v hS; obtain ⟨⟨s0, s1, s2, s3, s4⟩, t0, t1, t2, t3, t4⟩ := hS; go_simp; try with_reducible rfl)
      simp only [Act.put, List.setIfInBounds_toArray, List.set_cons_zero, List.set_cons_succ, List.getElem_toArray, List.getElem_cons_succ, List.getElem_cons_zero]
      refine wpAnyH_take (i := 5) (v := ?_) rfl (by kernel_rfl) (by kernel_rfl) (by kernel_rfl) (fun _ _ _ h => h) (Or.inl ⟨by rfl, ?_⟩) hH ?_
      rotate_left
      · (intro v hS; obtain ⟨⟨s0, s1, s2, s3, s4⟩, t0, t1, t2, t3, t4⟩ := hS; go_simp; try with_reducible rfl)
      simp only [Act.put, List.setIfInBounds_toArray, List.set_cons_zero, List.set_cons_succ, List.getElem_toArray, List.getElem_cons_succ, List.getElem_cons_zero]
      refine wpAnyH_take (i := 6) (v := ?_) rfl (by kernel_rfl) (by kernel_rfl) (by kernel_rfl) (fun _ _ _ h => h) (Or.inl ⟨by rfl, ?_⟩) hH ?_
      rotate_left
      · (intro v hS; obtain ⟨⟨s0, s1, s2, s3, s4⟩, t0, t1, t2, t3, t4⟩ := hS; go_simp; try with_reducible rfl)
      simp only [Act.put, List.setIfInBounds_toArray, List.set_cons_zero, List.set_cons_succ, List.getElem_toArray, List.getElem_cons_succ, List.getElem_cons_zero]
      refine wpAnyH_take (i := 7) (v := ?_) rfl (by kernel_rfl) (by kernel_rfl) (by kernel_rfl) (fun _ _ _ h => h) (Or.inl ⟨by rfl, ?_⟩) hH ?_
      rotate_left
      · (intro v hS; obtain ⟨⟨s0, s1, s2, s3, s4⟩, t0, t1, t2, t3, t4⟩ := hS; go_simp; try with_reducible rfl)
      simp only [Act.put, List.setIfInBounds_toArray, List.set_cons_zero, List.set_cons_succ, List.getElem_toArray, List.getElem_cons_succ, List.getElem_cons_zero]
      refine wpAnyH_ready (rs := [8]) (by kernel_rfl) (by simp) ?_
      refine AllReadyH.cons rfl (fun K hK => ?_) AllReadyH.nil
      go_simp
      refine Calls.mono CC.out ?_
      rintro e u2 ⟨he, hgu⟩
      subst he
      refine hK.out _ _ (TT.out _ (grown_trans FX.out.2.2.2 hgu)) (fun hH2 => ?_)
      clear hK K hH
      have hH := hH2
      clear hH2
      have FY : Hid (w.grownBy u2 none ∧ InEvent u2 u2 R' b (o + (j + 1) * 5) ∧ InEvent u2 u2 R' b' (o' + (j + 1) * 5)) := ⟨grown_trans FX.out.1 hgu, FX.out.2.1.le (CLe.grown hgu) (CLe.grown hgu), FX.out.2.2.1.le (CLe.grown hgu) (CLe.grown hgu)⟩
      clear FX hgu CC TT
      simp only [Act.put, List.setIfInBounds_toArray, List.set_cons_zero, List.set_cons_succ, List.getElem_toArray, List.getElem_cons_succ, List.getElem_cons_zero]
      refine wpAnyH_take (i := 9) (v := ?_) rfl (by kernel_rfl) (by kernel_rfl) (by kernel_rfl) (fun _ _ _ h => h) (Or.inl ⟨by rfl, ?_⟩) hH ?_
      rotate_left
      · (intro v hS; go_simp; try with_reducible rfl)
      simp only [Act.put, List.setIfInBounds_toArray, List.set_cons_zero, List.set_cons_succ, List.getElem_toArray, List.getElem_cons_succ, List.getElem_cons_zero]
      refine wpAnyH_done (by kernel_rfl) ?_ _
      go_wp2
      go_roundw
      case rel => exact ⟨j + 1, R', by omega, by go_num, FY, by omega, by omega⟩
      case measure => simp [intOf]; omega
    · obtain rfl : j = l := by omega
      have E : Hid (w.grownBy wr none) := HR.out.1
      clear HR IN
      go_wp2
      go_ret
      exact ⟨rfl, E.out⟩

theorem BlkN.putsEvent {w : World} {t : TypeId} {g k : Nat} (h : BlkN w t g k) (j : Nat) (hj : j + 4 < k) (v0 v1 v2 v3 v4 : Value) : BlkN (((((w.setCell ⟨g, j, none⟩ (v0)).setCell ⟨g, j + 1, none⟩ (v1)).setCell ⟨g, j + 2, none⟩ (v2)).setCell ⟨g, j + 3, none⟩ (v3)).setCell ⟨g, j + 4, none⟩ (v4)) t g k ∧ w.grownBy (((((w.setCell ⟨g, j, none⟩ (v0)).setCell ⟨g, j + 1, none⟩ (v1)).setCell ⟨g, j + 2, none⟩ (v2)).setCell ⟨g, j + 3, none⟩ (v3)).setCell ⟨g, j + 4, none⟩ (v4)) (some g) ∧ ((((((w.setCell ⟨g, j, none⟩ (v0)).setCell ⟨g, j + 1, none⟩ (v1)).setCell ⟨g, j + 2, none⟩ (v2)).setCell ⟨g, j + 3, none⟩ (v3)).setCell ⟨g, j + 4, none⟩ (v4)).cell? ⟨g, j, none⟩ = some v0 ∧ (((((w.setCell ⟨g, j, none⟩ (v0)).setCell ⟨g, j + 1, none⟩ (v1)).setCell ⟨g, j + 2, none⟩ (v2)).setCell ⟨g, j + 3, none⟩ (v3)).setCell ⟨g, j + 4, none⟩ (v4)).cell? ⟨g, j + 1, none⟩ = some v1 ∧ (((((w.setCell ⟨g, j, none⟩ (v0)).setCell ⟨g, j + 1, none⟩ (v1)).setCell ⟨g, j + 2, none⟩ (v2)).setCell ⟨g, j + 3, none⟩ (v3)).setCell ⟨g, j + 4, none⟩ (v4)).cell? ⟨g, j + 2, none⟩ = some v2 ∧ (((((w.setCell ⟨g, j, none⟩ (v0)).setCell ⟨g, j + 1, none⟩ (v1)).setCell ⟨g, j + 2, none⟩ (v2)).setCell ⟨g, j + 3, none⟩ (v3)).setCell ⟨g, j + 4, none⟩ (v4)).cell? ⟨g, j + 3, none⟩ = some v3 ∧ (((((w.setCell ⟨g, j, none⟩ (v0)).setCell ⟨g, j + 1, none⟩ (v1)).setCell ⟨g, j + 2, none⟩ (v2)).setCell ⟨g, j + 3, none⟩ (v3)).setCell ⟨g, j + 4, none⟩ (v4)).cell? ⟨g, j + 4, none⟩ = some v4) ∧ ∀ i, i < j → (((((w.setCell ⟨g, j, none⟩ (v0)).setCell ⟨g, j + 1, none⟩ (v1)).setCell ⟨g, j + 2, none⟩ (v2)).setCell ⟨g, j + 3, none⟩ (v3)).setCell ⟨g, j + 4, none⟩ (v4)).cell? ⟨g, i, none⟩ = w.cell? ⟨g, i, none⟩ := by
  obtain ⟨h0, k0, c0, o0⟩ := h.set (j) (by omega) v0
  obtain ⟨h1, k1, c1, o1⟩ := h0.set (j + 1) (by omega) v1
  obtain ⟨h2, k2, c2, o2⟩ := h1.set (j + 2) (by omega) v2
  obtain ⟨h3, k3, c3, o3⟩ := h2.set (j + 3) (by omega) v3
  obtain ⟨h4, k4, c4, o4⟩ := h3.set (j + 4) (by omega) v4
  exact ⟨h4, grown_trans (grown_trans (grown_trans (grown_trans (k0) k1) k2) k3) k4, ⟨(o4 j (by omega)).trans ((o3 j (by omega)).trans ((o2 j (by omega)).trans ((o1 j (by omega)).trans (c0)))), (o4 (j + 1) (by omega)).trans ((o3 (j + 1) (by omega)).trans ((o2 (j + 1) (by omega)).trans (c1))), (o4 (j + 2) (by omega)).trans ((o3 (j + 2) (by omega)).trans (c2)), (o4 (j + 3) (by omega)).trans (c3), c4⟩, fun i hi => (o4 i (by omega)).trans ((o3 i (by omega)).trans ((o2 i (by omega)).trans ((o1 i (by omega)).trans (o0 i (by omega)))))⟩

theorem infoSEvent : (Try.prog.info? 36).map (fun i => (i.zero, i.size, i.bytes)) = some (some (.agg #[.int .i64 0, .int .i64 0, .int .i64 0, .slice none 0 0, .int .i64 0]), 5, 56) := by kernel_rfl

theorem makeSEvent (n : Nat) (hn : n ≤ 4194304) (w : World) : (Instr.makeSlice 25 (.int .i64 (n : Int)) (.int .i64 (n : Int))).run Try.prog w = .ok (.slice (some ⟨w.heap.size, 0, none⟩) n n) (w.alloc (.cells (madeCells #[.int .i64 0, .int .i64 0, .int .i64 0, .slice none 0 0, .int .i64 0] (n * 5)) 36)) := by
  obtain ⟨i0, hi, hz0, hz1, hz2⟩ := info_parts infoSEvent
  have h := run_make (P := Try.prog) (w := w) 25 36 i0 _ Try.underlying25 hi hz0 .i64 .i64 (n : Int) (n : Int) (by omega) (by omega) (by rw [hz2]; omega) (by omega)
  rw [hz1] at h
  simpa [Value.cells] using h
theorem makeSEvent0 (w : World) : (Instr.makeSlice 25 (.int .i64 0) (.int .i64 0)).run Try.prog w = .ok (.slice (some ⟨w.heap.size, 0, none⟩) 0 0) (w.alloc (.cells (madeCells #[.int .i64 0, .int .i64 0, .int .i64 0, .slice none 0 0, .int .i64 0] 0) 36)) := makeSEvent 0 (by omega) w
theorem madeSEvent_blk (w : World) (n : Nat) : BlkN (w.alloc (.cells (madeCells #[.int .i64 0, .int .i64 0, .int .i64 0, .slice none 0 0, .int .i64 0] (n * 5)) 36)) 36 w.heap.size (n * 5) := ⟨_, heap_alloc_new w _, by simp [madeCells]⟩

set_option maxRecDepth 4000 in
set_option maxHeartbeats 4000000 in
theorem toEventsT (xs : List REvent) (a : Option Addr) (l c : Nat) (w : World) (h : SlEvent w a l xs) (hs : szEvents xs ≤ 1048576) :
    Calls Try.prog 40 #[.slice a l c] w fun e u => ∃ a' c', e = .returned (.slice a' l c') ∧ w.grownBy u none ∧ SlEvent (hideZ u w.heap.size) a' l xs := by
  have hlen := szEvents_len xs
  have hl := h.2.1
  have hfl := h.1
  rcases h.cases with ⟨rfl, rfl⟩ | ⟨b, o, rfl, hin, hpos⟩
  · have hmk := makeSEvent0
    go_enter Try.func40, Try.ntmps40
    go_wp2
    refine wp_loop_rounds 1 ?_
    rw [rounds_succ]
    go_wp2
    go_ret
    exact ⟨_, _, rfl, World.grownBy_alloc _ _ _, ⟨rfl, by omega, .inl rfl⟩⟩
  have hmk := makeSEvent l (by omega)
  have hb0 := madeSEvent_blk w l
  have IN : Hid (InEvent w w xs b o) := hin
  have HB : Hid _ := hb0
  clear hin h hb0
  skip
  go_enter Try.func40, Try.ntmps40
  go_wp2
  go_loopw [4] (fun i wr => ∃ (j : Nat) (P R : List REvent), j ≤ l ∧ i = .int .i64 j ∧ P.length = j ∧ R.length + j = l ∧ szEvents R ≤ 1048576 ∧ Hid (w.grownBy wr none ∧ InEvent w w R b (o + j * 5) ∧ BlkN wr 36 w.heap.size (l * 5) ∧ InEvent wr (hideZ wr (w.heap.size + 1)) P w.heap.size 0 ∧ P ++ R = xs)) (fun i _ => l - (intOf i).toNat)
  case atStart => exact ⟨0, [], xs, Nat.zero_le _, rfl, rfl, by omega, hs, World.grownBy_alloc _ _ _, by simpa using IN.out, HB.out, trivial, rfl⟩
  case round =>
    obtain ⟨j, P, R, hj, rfl, hPl, hRl, hRs, HR⟩ := hrel
    by_cases hlt : j < l
    · obtain ⟨x, R', rfl⟩ : ∃ x R', R = x :: R' := by
        cases R with
        | nil => simp at hRl; omega
        | cons x R' => exact ⟨x, R', rfl⟩
      obtain ⟨hg, ⟨⟨a1, l1, c1, ⟨k0, k1, k2, k3, k4⟩, hd⟩, hR2⟩, hB, hP, hcs⟩ := HR.out
      rw [show o + j * 5 + 5 = o + (j + 1) * 5 by omega] at hR2
      simp only [szEvents] at hRs
      simp only [List.length_cons] at hRl
      have k0 := hg.cell k0 (by simp)
      have k1 := hg.cell k1 (by simp)
      have k2 := hg.cell k2 (by simp)
      have k3 := hg.cell k3 (by simp)
      have k4 := hg.cell k4 (by simp)
      skip
      have CC : Hid _ := toEventT x a1 l1 c1 wr (hd.none hg) (by omega)
      have FX : Hid (w.grownBy wr none ∧ InEvent w w R' b (o + (j + 1) * 5) ∧ BlkN wr 36 w.heap.size (l * 5) ∧ InEvent wr (hideZ wr (w.heap.size + 1)) P w.heap.size 0 ∧ (P ++ [x]) ++ R' = xs) := ⟨hg, hR2, hB, hP, by rw [List.append_assoc]; exact hcs⟩
      clear hd hR2 hg hB hP hcs IN HR hmk HB
      go_wp2_with fail
      refine Calls.mono CC.out ?_
      rintro e u ⟨t1, w1, he, hgu, hr⟩
      subst he
      have hBu := FX.out.2.2.1.of (hgu.block _ FX.out.2.2.1.lt (by simp))
      obtain ⟨q0, qq0⟩ := hBu.has (j * 5) (by omega)
      have ff0 := hBu.free (j * 5)
      obtain ⟨q1, qq1⟩ := hBu.has (j * 5 + 1) (by omega)
      have ff1 := hBu.free (j * 5 + 1)
      obtain ⟨q2, qq2⟩ := hBu.has (j * 5 + 2) (by omega)
      have ff2 := hBu.free (j * 5 + 2)
      obtain ⟨q3, qq3⟩ := hBu.has (j * 5 + 3) (by omega)
      have ff3 := hBu.free (j * 5 + 3)
      obtain ⟨q4, qq4⟩ := hBu.has (j * 5 + 4) (by omega)
      have ff4 := hBu.free (j * 5 + 4)
      have FY : Hid (BlkN u 36 w.heap.size (l * 5) ∧ wr.grownBy u none ∧ RdEvent (hideZ u wr.heap.size) x t1 l1) := ⟨hBu, hgu, hr⟩
      clear CC hgu hr hBu k0 k1 k2 k3 k4
      simp only []
      go_wp2
      obtain ⟨hg, hR2, hB, hP, hcs⟩ := FX.out
      obtain ⟨hBu, hgu, hr⟩ := FY.out
      have hsz := hB.lt
      obtain ⟨hB3, hk3, tq, hoth⟩ := hBu.putsEvent (j * 5) (by omega) (.int .i64 x.cap) (.int .i64 x.a) (.int .i64 x.b) (.slice t1 l1 w1) (.int .i64 x.res)
      have hfx : ∀ i, w.heap.size + 1 ≤ i → i < wr.heap.size → _ = wr.heap[i]? := fun i h1 h2 => (hk3.block i (Nat.lt_of_lt_of_le h2 hgu.size) (by simp; omega)).trans (hgu.block i h2 (by simp))
      have hfu : ∀ i, wr.heap.size ≤ i → i < u.heap.size → _ = u.heap[i]? := fun i h1 h2 => hk3.block i h2 (by simp; omega)
      have hP2 := hP.move (b' := w.heap.size) (off' := 0) (fun i v hi hv => (hoth (0 + i) (by rw [hPl] at hi; omega)).trans (hgu.cell hv (by simp))) (CLe.hidz (Nat.le_refl _) hfx)
      have cl := CLe.hidz (lo' := w.heap.size + 1) (by omega) hfu
      have hQ := hP2.app (Q := [x]) ⟨⟨t1, l1, w1, ⟨by rw [hPl, Nat.zero_add]; exact tq.1, by rw [hPl, Nat.zero_add]; exact tq.2.1, by rw [hPl, Nat.zero_add]; exact tq.2.2.1, by rw [hPl, Nat.zero_add]; exact tq.2.2.2.1, by rw [hPl, Nat.zero_add]; exact tq.2.2.2.2⟩, hr.le cl⟩, trivial⟩
      go_roundw
      case rel => exact ⟨j + 1, P ++ [x], R', by omega, by go_num, by simp [hPl], by omega, by omega, grown_into (grown_trans hg hgu) hk3 (Nat.le_refl _), hR2, hB3, hQ, hcs⟩
      case measure => simp [intOf]; omega
    · obtain rfl : j = l := by omega
      obtain rfl : R = [] := List.eq_nil_of_length_eq_zero (by omega)
      obtain ⟨hg, -, hB, hP, hcs⟩ := HR.out
      rw [List.append_nil] at hcs
      subst hcs
      have FQ : Hid (w.grownBy wr none ∧ SlEvent (hideZ wr w.heap.size) (some ⟨w.heap.size, 0, none⟩) j P) := ⟨hg, hPl, by omega, .inr ⟨_, _, rfl, hP.move (fun i v hi hv => (hideZ_cell (Nat.le_refl _) hB).trans hv) (CLe.hidz (Nat.le_succ _) (fun _ _ _ => rfl))⟩⟩
      clear hg hB hP HR IN HB
      go_wp2
      go_ret
      exact ⟨_, _, rfl, FQ.out.1, FQ.out.2⟩
end Go.Proofs.Ytccnninmkfhejaa.By
