/-
  Lists of Token: how they lie in memory, how great they are, two that read the same compared, and their copies: the law's own helpers by their contracts. No statement is proved here.
-/
import Derived.Test.YtaecnhmegdeicaaDoorSToken
import Derived.Test.YtaecnhmegdeicaaDoorSBaAlso
import Derived.Deep.DeepCutAuto
import Derived.Deep.RegionHeld
namespace Go.Proofs.YtaecnhmegdeicaaDoor.By
open Go.RowKit
set_option linter.unusedVariables false
set_option linter.unusedSimpArgs false

/-- Token from a cell on, 4 cells each; their parts are read in wp. -/
def InToken (w wp : World) : List RToken → Nat → Nat → Prop
  | [], _, _ => True
  | x :: r, b, off => (∃ a1 l1 c1, (w.cell? ⟨b, off, none⟩ = some (.int .i64 x.kind) ∧ w.cell? ⟨b, off + 1, none⟩ = some (.int .i64 x.pos) ∧ w.cell? ⟨b, off + 2, none⟩ = some (.int .i64 x.n) ∧ w.cell? ⟨b, off + 3, none⟩ = some (.slice a1 l1 c1)) ∧ RdToken wp x a1 l1) ∧ InToken w wp r b (off + 4)
def SlToken (w : World) (a : Option Addr) (l : Nat) (xs : List RToken) : Prop :=
  xs.length = l ∧ l ≤ 9223372036854775807 ∧ (l = 0 ∨ ∃ b o, a = some ⟨b, o, none⟩ ∧ InToken w w xs b o)
theorem InToken.move {w wp u up : World} {xs : List RToken} {b off b' off' : Nat} (h : InToken w wp xs b off) (hc : ∀ i v, i < xs.length * 4 → w.cell? ⟨b, off + i, none⟩ = some v → u.cell? ⟨b', off' + i, none⟩ = some v) (k : CLe wp up) : InToken u up xs b' off' := by
  induction xs generalizing off off' with
  | nil => trivial
  | cons x r ih =>
    obtain ⟨⟨a1, l1, c1, ⟨h0, h1, h2, h3⟩, hp⟩, hr⟩ := h
    refine ⟨⟨a1, l1, c1, ⟨by simpa using hc 0 _ (by simp) h0, hc 1 _ (by simp; omega) h1, hc 2 _ (by simp; omega) h2, hc 3 _ (by simp; omega) h3⟩, hp.le k⟩, ih hr (fun i v hi hv => ?_)⟩
    have := hc (i + 4) v (by simp; omega) (by rw [show off + (i + 4) = off + 4 + i by omega]; exact hv)
    rw [show off' + 4 + i = off' + (i + 4) by omega]; exact this
theorem InToken.le {w wp u up : World} {xs : List RToken} {b off : Nat} (h : InToken w wp xs b off) (k : CLe w u) (k2 : CLe wp up) : InToken u up xs b off := h.move (fun i v _ hv => k _ _ hv) k2
theorem InToken.app {w wp : World} {P Q : List RToken} {b off : Nat} (h : InToken w wp P b off) (k : InToken w wp Q b (off + P.length * 4)) : InToken w wp (P ++ Q) b off := by
  induction P generalizing off with
  | nil => simpa using k
  | cons x r ih =>
    refine ⟨h.1, ih h.2 ?_⟩
    rw [show off + 4 + r.length * 4 = off + (x :: r).length * 4 by simp; omega]; exact k
theorem SlToken.le {w u : World} {a : Option Addr} {l : Nat} {xs : List RToken} (h : SlToken w a l xs) (k : CLe w u) : SlToken u a l xs := by
  obtain ⟨h1, h2, h3⟩ := h
  refine ⟨h1, h2, ?_⟩
  rcases h3 with h3 | ⟨b, o, e, h3⟩
  · exact .inl h3
  · exact .inr ⟨b, o, e, h3.le k k⟩
theorem SlToken.none {w u : World} {a : Option Addr} {l : Nat} {xs : List RToken} (h : SlToken w a l xs) (k : w.grownBy u Option.none) : SlToken u a l xs := h.le (CLe.grown k)
theorem SlToken.cases {w : World} {a : Option Addr} {l : Nat} {xs : List RToken} (h : SlToken w a l xs) : (l = 0 ∧ xs = []) ∨ ∃ b o, a = some ⟨b, o, Option.none⟩ ∧ InToken w w xs b o ∧ 0 < l := by
  obtain ⟨h1, h2, h3⟩ := h
  by_cases h0 : l = 0
  · exact .inl ⟨h0, List.eq_nil_of_length_eq_zero (by omega)⟩
  · rcases h3 with h3 | ⟨b, o, e, h3⟩
    · exact absurd h3 h0
    · exact .inr ⟨b, o, e, h3, by omega⟩
def szTokens : List RToken → Nat
  | [] => 0
  | x :: r => 1 + szToken x + szTokens r
theorem szTokens_len : ∀ xs : List RToken, xs.length ≤ szTokens xs
  | [] => Nat.le_refl _
  | x :: r => by have := szTokens_len r; simp only [List.length_cons, szTokens]; omega

set_option maxRecDepth 4000 in
set_option maxHeartbeats 4000000 in
theorem eqTokensT (xs : List RToken) (a a' : Option Addr) (l c c' : Nat) (w : World) (h : SlToken w a l xs) (h' : SlToken w a' l xs) (hs : szTokens xs ≤ 1048576) :
    Calls Tryd.prog 7 #[.slice a l c, .slice a' l c'] w fun e u => e = .returned (.bool true) ∧ w.grownBy u none := by
  have hl := h.2.1
  have hfl := h.1
  rcases h.cases with ⟨rfl, rfl⟩ | ⟨b, o, rfl, hin, hpos⟩
  · go_enter Tryd.func7, Tryd.ntmps7
    go_wp2
    refine wp_loop_rounds 1 ?_
    rw [rounds_succ]
    go_wp2
    go_ret
    exact ⟨rfl, World.grownBy.refl _ _⟩
  rcases h'.cases with ⟨rfl, rfl⟩ | ⟨b', o', rfl, hin', -⟩
  · exact absurd hpos (by omega)
  have IN : Hid (InToken w w xs b o ∧ InToken w w xs b' o') := ⟨hin, hin'⟩
  clear hin hin' h h'
  go_enter Tryd.func7, Tryd.ntmps7
  go_wp2
  go_loopw [5] (fun i wr => ∃ (j : Nat) (R : List RToken), j ≤ l ∧ i = .int .i64 j ∧ Hid (w.grownBy wr none ∧ InToken wr wr R b (o + j * 4) ∧ InToken wr wr R b' (o' + j * 4)) ∧ szTokens R ≤ 1048576 ∧ R.length + j = l) (fun i _ => l - (intOf i).toNat)
  case atStart => exact ⟨0, xs, Nat.zero_le _, rfl, ⟨World.grownBy.refl _ _, by simpa using IN.out.1, by simpa using IN.out.2⟩, hs, by omega⟩
  case round =>
    obtain ⟨j, R, hj, rfl, HR, hRs, hRl⟩ := hrel
    by_cases hlt : j < l
    · obtain ⟨x, R', rfl⟩ : ∃ x R', R = x :: R' := by
        cases R with
        | nil => simp at hRl; omega
        | cons x R' => exact ⟨x, R', rfl⟩
      obtain ⟨hg, ⟨⟨a1, l1, c1, ⟨k0, k1, k2, k3⟩, hd⟩, hR2⟩, ⟨⟨f1, n1, g1, ⟨m0, m1, m2, m3⟩, hd2⟩, hR3⟩⟩ := HR.out
      rw [show o + j * 4 + 4 = o + (j + 1) * 4 by omega] at hR2
      rw [show o' + j * 4 + 4 = o' + (j + 1) * 4 by omega] at hR3
      obtain rfl : l1 = n1 := by have := hd.1.1; have := hd2.1.1; omega
      simp only [szTokens] at hRs
      have gd := grown_drew (World.grownBy.refl wr none)
      have gc := CLe.grown gd
      have CC : Hid _ := eqTokenT x a1 f1 l1 c1 g1 wr.drew (hd.none gd) (hd2.none gd) (by omega)
      skip
      have TT : Hid (∀ u, wr.grownBy u none → ((u.cell? ⟨b, o + j * 4, none⟩ = some (.int .i64 x.kind) ∧ u.cell? ⟨b, o + j * 4 + 1, none⟩ = some (.int .i64 x.pos) ∧ u.cell? ⟨b, o + j * 4 + 2, none⟩ = some (.int .i64 x.n) ∧ u.cell? ⟨b, o + j * 4 + 3, none⟩ = some (.slice a1 l1 c1)) ∧ u.cell? ⟨b', o' + j * 4, none⟩ = some (.int .i64 x.kind) ∧ u.cell? ⟨b', o' + j * 4 + 1, none⟩ = some (.int .i64 x.pos) ∧ u.cell? ⟨b', o' + j * 4 + 2, none⟩ = some (.int .i64 x.n) ∧ u.cell? ⟨b', o' + j * 4 + 3, none⟩ = some (.slice f1 l1 g1))) := fun u hu => ⟨⟨hu.cell k0 (by simp), hu.cell k1 (by simp), hu.cell k2 (by simp), hu.cell k3 (by simp)⟩, hu.cell m0 (by simp), hu.cell m1 (by simp), hu.cell m2 (by simp), hu.cell m3 (by simp)⟩
      have FX : Hid (w.grownBy wr.drew none ∧ InToken wr.drew wr.drew R' b (o + (j + 1) * 4) ∧ InToken wr.drew wr.drew R' b' (o' + (j + 1) * 4) ∧ wr.grownBy wr.drew none) := ⟨grown_trans hg gd, hR2.le gc gc, hR3.le gc gc, gd⟩
      clear hd hd2 hR2 hR3 hg IN HR gd gc k0 k1 k2 k3 m0 m1 m2 m3
      simp only [List.length_cons] at hRl
      go_wp2_with fail
      refine wp_region_held_drew (S := (fun u => ((u.cell? ⟨b, o + j * 4, none⟩ = some (.int .i64 x.kind) ∧ u.cell? ⟨b, o + j * 4 + 1, none⟩ = some (.int .i64 x.pos) ∧ u.cell? ⟨b, o + j * 4 + 2, none⟩ = some (.int .i64 x.n) ∧ u.cell? ⟨b, o + j * 4 + 3, none⟩ = some (.slice a1 l1 c1)) ∧ u.cell? ⟨b', o' + j * 4, none⟩ = some (.int .i64 x.kind) ∧ u.cell? ⟨b', o' + j * 4 + 1, none⟩ = some (.int .i64 x.pos) ∧ u.cell? ⟨b', o' + j * 4 + 2, none⟩ = some (.int .i64 x.n) ∧ u.cell? ⟨b', o' + j * 4 + 3, none⟩ = some (.slice f1 l1 g1)))) (by kernel_rfl) (TT.out _ FX.out.2.2.2) (fun hH => ?_)
      generalize wr.drew = u at *
      simp only [List.size_toArray, List.length_cons, List.length_nil, Nat.reduceAdd, Array.replicate, List.replicate]
      refine wpAnyH_take (i := 0) (v := ?_) rfl (by kernel_rfl) (by kernel_rfl) (by kernel_rfl) (fun _ _ _ h => h) (Or.inl ⟨by rfl, ?_⟩) hH ?_
      rotate_left
      · (intro v hS; obtain ⟨⟨s0, s1, s2, s3⟩, t0, t1, t2, t3⟩ := hS; go_simp; try with_reducible rfl)
      simp only [Act.put, List.setIfInBounds_toArray, List.set_cons_zero, List.set_cons_succ, List.getElem_toArray, List.getElem_cons_succ, List.getElem_cons_zero]
      refine wpAnyH_take (i := 1) (v := ?_) rfl (by kernel_rfl) (by kernel_rfl) (by kernel_rfl) (fun _ _ _ h => h) (Or.inl ⟨by rfl, ?_⟩) hH ?_
      rotate_left
      · (intro v hS; obtain ⟨⟨s0, s1, s2, s3⟩, t0, t1, t2, t3⟩ := hS; go_simp; try with_reducible rfl)
      simp only [Act.put, List.setIfInBounds_toArray, List.set_cons_zero, List.set_cons_succ, List.getElem_toArray, List.getElem_cons_succ, List.getElem_cons_zero]
      refine wpAnyH_take (i := 2) (v := ?_) rfl (by kernel_rfl) (by kernel_rfl) (by kernel_rfl) (fun _ _ _ h => h) (Or.inl ⟨by rfl, ?_⟩) hH ?_
      rotate_left
      · (intro v hS; obtain ⟨⟨s0, s1, s2, s3⟩, t0, t1, t2, t3⟩ := hS; go_simp; try with_reducible rfl)
      simp only [Act.put, List.setIfInBounds_toArray, List.set_cons_zero, List.set_cons_succ, List.getElem_toArray, List.getElem_cons_succ, List.getElem_cons_zero]
      refine wpAnyH_take (i := 3) (v := ?_) rfl (by kernel_rfl) (by kernel_rfl) (by kernel_rfl) (fun _ _ _ h => h) (Or.inl ⟨by rfl, ?_⟩) hH ?_
      rotate_left
      · (intro v hS; obtain ⟨⟨s0, s1, s2, s3⟩, t0, t1, t2, t3⟩ := hS; go_simp; try with_reducible rfl)
      simp only [Act.put, List.setIfInBounds_toArray, List.set_cons_zero, List.set_cons_succ, List.getElem_toArray, List.getElem_cons_succ, List.getElem_cons_zero]
      refine wpAnyH_take (i := 4) (v := ?_) rfl (by kernel_rfl) (by kernel_rfl) (by kernel_rfl) (fun _ _ _ h => h) (Or.inl ⟨by rfl, ?_⟩) hH ?_
      rotate_left
      · (intro v hS; obtain ⟨⟨s0, s1, s2, s3⟩, t0, t1, t2, t3⟩ := hS; go_simp; try with_reducible rfl)
      simp only [Act.put, List.setIfInBounds_toArray, List.set_cons_zero, List.set_cons_succ, List.getElem_toArray, List.getElem_cons_succ, List.getElem_cons_zero]
      refine wpAnyH_take (i := 5) (v := ?_) rfl (by kernel_rfl) (by kernel_rfl) (by kernel_rfl) (fun _ _ _ h => h) (Or.inl ⟨by rfl, ?_⟩) hH ?_
      rotate_left
      · (intro v hS; obtain ⟨⟨s0, s1, s2, s3⟩, t0, t1, t2, t3⟩ := hS; go_simp; try with_reducible rfl)
      simp only [Act.put, List.setIfInBounds_toArray, List.set_cons_zero, List.set_cons_succ, List.getElem_toArray, List.getElem_cons_succ, List.getElem_cons_zero]
      refine wpAnyH_take (i := 6) (v := ?_) rfl (by kernel_rfl) (by kernel_rfl) (by kernel_rfl) (fun _ _ _ h => h) (Or.inl ⟨by rfl, ?_⟩) hH ?_
      rotate_left
      · (intro v hS; obtain ⟨⟨s0, s1, s2, s3⟩, t0, t1, t2, t3⟩ := hS; go_simp; try with_reducible rfl)
      simp only [Act.put, List.setIfInBounds_toArray, List.set_cons_zero, List.set_cons_succ, List.getElem_toArray, List.getElem_cons_succ, List.getElem_cons_zero]
      refine wpAnyH_take (i := 7) (v := ?_) rfl (by kernel_rfl) (by kernel_rfl) (by kernel_rfl) (fun _ _ _ h => h) (Or.inl ⟨by rfl, ?_⟩) hH ?_
      rotate_left
      · (intro v hS; obtain ⟨⟨s0, s1, s2, s3⟩, t0, t1, t2, t3⟩ := hS; go_simp; try with_reducible rfl)
      simp only [Act.put, List.setIfInBounds_toArray, List.set_cons_zero, List.set_cons_succ, List.getElem_toArray, List.getElem_cons_succ, List.getElem_cons_zero]
      refine wpAnyH_ready (rs := [8]) (by kernel_rfl) (by simp) ?_
      refine AllReadyH.cons rfl (fun K hK => ?_) AllReadyH.nil
      go_simp
      refine Calls.mono CC.out ?_
      rintro e u2 ⟨he, hgu⟩
      subst he
      refine hK.out _ _ (TT.out _ (grown_trans FX.out.2.2.2 hgu)) (fun hH2 => ?_)
      clear hK K hH
      have hH := hH2
      clear hH2
      have FY : Hid (w.grownBy u2 none ∧ InToken u2 u2 R' b (o + (j + 1) * 4) ∧ InToken u2 u2 R' b' (o' + (j + 1) * 4)) := ⟨grown_trans FX.out.1 hgu, FX.out.2.1.le (CLe.grown hgu) (CLe.grown hgu), FX.out.2.2.1.le (CLe.grown hgu) (CLe.grown hgu)⟩
      clear FX hgu CC TT
      simp only [Act.put, List.setIfInBounds_toArray, List.set_cons_zero, List.set_cons_succ, List.getElem_toArray, List.getElem_cons_succ, List.getElem_cons_zero]
      refine wpAnyH_take (i := 9) (v := ?_) rfl (by kernel_rfl) (by kernel_rfl) (by kernel_rfl) (fun _ _ _ h => h) (Or.inl ⟨by rfl, ?_⟩) hH ?_
      rotate_left
      · (intro v hS; go_simp; try with_reducible rfl)
      simp only [Act.put, List.setIfInBounds_toArray, List.set_cons_zero, List.set_cons_succ, List.getElem_toArray, List.getElem_cons_succ, List.getElem_cons_zero]
      refine wpAnyH_done (by kernel_rfl) ?_ _
      go_wp2
      go_roundw
      case rel => exact ⟨j + 1, R', by omega, by go_num, FY, by omega, by omega⟩
      case measure => simp [intOf]; omega
    · obtain rfl : j = l := by omega
      have E : Hid (w.grownBy wr none) := HR.out.1
      clear HR IN
      go_wp2
      go_ret
      exact ⟨rfl, E.out⟩

theorem BlkN.putsToken {w : World} {t : TypeId} {g k : Nat} (h : BlkN w t g k) (j : Nat) (hj : j + 3 < k) (v0 v1 v2 v3 : Value) : BlkN ((((w.setCell ⟨g, j, none⟩ (v0)).setCell ⟨g, j + 1, none⟩ (v1)).setCell ⟨g, j + 2, none⟩ (v2)).setCell ⟨g, j + 3, none⟩ (v3)) t g k ∧ w.grownBy ((((w.setCell ⟨g, j, none⟩ (v0)).setCell ⟨g, j + 1, none⟩ (v1)).setCell ⟨g, j + 2, none⟩ (v2)).setCell ⟨g, j + 3, none⟩ (v3)) (some g) ∧ (((((w.setCell ⟨g, j, none⟩ (v0)).setCell ⟨g, j + 1, none⟩ (v1)).setCell ⟨g, j + 2, none⟩ (v2)).setCell ⟨g, j + 3, none⟩ (v3)).cell? ⟨g, j, none⟩ = some v0 ∧ ((((w.setCell ⟨g, j, none⟩ (v0)).setCell ⟨g, j + 1, none⟩ (v1)).setCell ⟨g, j + 2, none⟩ (v2)).setCell ⟨g, j + 3, none⟩ (v3)).cell? ⟨g, j + 1, none⟩ = some v1 ∧ ((((w.setCell ⟨g, j, none⟩ (v0)).setCell ⟨g, j + 1, none⟩ (v1)).setCell ⟨g, j + 2, none⟩ (v2)).setCell ⟨g, j + 3, none⟩ (v3)).cell? ⟨g, j + 2, none⟩ = some v2 ∧ ((((w.setCell ⟨g, j, none⟩ (v0)).setCell ⟨g, j + 1, none⟩ (v1)).setCell ⟨g, j + 2, none⟩ (v2)).setCell ⟨g, j + 3, none⟩ (v3)).cell? ⟨g, j + 3, none⟩ = some v3) ∧ ∀ i, i < j → ((((w.setCell ⟨g, j, none⟩ (v0)).setCell ⟨g, j + 1, none⟩ (v1)).setCell ⟨g, j + 2, none⟩ (v2)).setCell ⟨g, j + 3, none⟩ (v3)).cell? ⟨g, i, none⟩ = w.cell? ⟨g, i, none⟩ := by
  obtain ⟨h0, k0, c0, o0⟩ := h.set (j) (by omega) v0
  obtain ⟨h1, k1, c1, o1⟩ := h0.set (j + 1) (by omega) v1
  obtain ⟨h2, k2, c2, o2⟩ := h1.set (j + 2) (by omega) v2
  obtain ⟨h3, k3, c3, o3⟩ := h2.set (j + 3) (by omega) v3
  exact ⟨h3, grown_trans (grown_trans (grown_trans (k0) k1) k2) k3, ⟨(o3 j (by omega)).trans ((o2 j (by omega)).trans ((o1 j (by omega)).trans (c0))), (o3 (j + 1) (by omega)).trans ((o2 (j + 1) (by omega)).trans (c1)), (o3 (j + 2) (by omega)).trans (c2), c3⟩, fun i hi => (o3 i (by omega)).trans ((o2 i (by omega)).trans ((o1 i (by omega)).trans (o0 i (by omega))))⟩

theorem infoSToken : (Tryd.prog.info? 33).map (fun i => (i.zero, i.size, i.bytes)) = some (some (.agg #[.int .i64 0, .int .i64 0, .int .i64 0, .slice none 0 0]), 4, 48) := by kernel_rfl

theorem makeSToken (n : Nat) (hn : n ≤ 4194304) (w : World) : (Instr.makeSlice 23 (.int .i64 (n : Int)) (.int .i64 (n : Int))).run Tryd.prog w = .ok (.slice (some ⟨w.heap.size, 0, none⟩) n n) (w.alloc (.cells (madeCells #[.int .i64 0, .int .i64 0, .int .i64 0, .slice none 0 0] (n * 4)) 33)) := by
  obtain ⟨i0, hi, hz0, hz1, hz2⟩ := info_parts infoSToken
  have h := run_make (P := Tryd.prog) (w := w) 23 33 i0 _ Tryd.underlying23 hi hz0 .i64 .i64 (n : Int) (n : Int) (by omega) (by omega) (by rw [hz2]; omega) (by omega)
  rw [hz1] at h
  simpa [Value.cells] using h
theorem makeSToken0 (w : World) : (Instr.makeSlice 23 (.int .i64 0) (.int .i64 0)).run Tryd.prog w = .ok (.slice (some ⟨w.heap.size, 0, none⟩) 0 0) (w.alloc (.cells (madeCells #[.int .i64 0, .int .i64 0, .int .i64 0, .slice none 0 0] 0) 33)) := makeSToken 0 (by omega) w
theorem madeSToken_blk (w : World) (n : Nat) : BlkN (w.alloc (.cells (madeCells #[.int .i64 0, .int .i64 0, .int .i64 0, .slice none 0 0] (n * 4)) 33)) 33 w.heap.size (n * 4) := ⟨_, heap_alloc_new w _, by simp [madeCells]⟩

end Go.Proofs.YtaecnhmegdeicaaDoor.By
