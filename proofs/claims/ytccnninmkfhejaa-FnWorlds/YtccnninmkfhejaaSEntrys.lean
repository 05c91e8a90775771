/-
  Lists of Entry: how they lie in memory, how great they are, two that read the same compared, and their copies: the law's own helpers by their contracts. No statement is proved here.
-/
import Derived.Test.YtccnninmkfhejaaSEntryAlso
import Derived.Deep.DeepCutAuto
import Derived.Deep.RegionHeld
namespace Go.Proofs.Ytccnninmkfhejaa.By
open Go.RowKit
set_option linter.unusedVariables false
set_option linter.unusedSimpArgs false

/-- Entry from a cell on, 2 cells each; their parts are read in wp. -/
def InEntry (w wp : World) : List REntry → Nat → Nat → Prop
  | [], _, _ => True
  | x :: r, b, off => (∃ (a1 : Option Addr) (l1 c1 : Nat), (w.cell? ⟨b, off, none⟩ = some (.int .i64 x.key) ∧ w.cell? ⟨b, off + 1, none⟩ = some (.int .i64 x.val)) ∧ RdEntry wp x a1 l1) ∧ InEntry w wp r b (off + 2)
def SlEntry (w : World) (a : Option Addr) (l : Nat) (xs : List REntry) : Prop :=
  xs.length = l ∧ l ≤ 9223372036854775807 ∧ (l = 0 ∨ ∃ b o, a = some ⟨b, o, none⟩ ∧ InEntry w w xs b o)
theorem InEntry.move {w wp u up : World} {xs : List REntry} {b off b' off' : Nat} (h : InEntry w wp xs b off) (hc : ∀ i v, i < xs.length * 2 → w.cell? ⟨b, off + i, none⟩ = some v → u.cell? ⟨b', off' + i, none⟩ = some v) (k : CLe wp up) : InEntry u up xs b' off' := by
  induction xs generalizing off off' with
  | nil => trivial
  | cons x r ih =>
    obtain ⟨⟨a1, l1, c1, ⟨h0, h1⟩, hp⟩, hr⟩ := h
    refine ⟨⟨a1, l1, c1, ⟨by simpa using hc 0 _ (by simp) h0, hc 1 _ (by simp; omega) h1⟩, hp.le k⟩, ih hr (fun i v hi hv => ?_)⟩
    have := hc (i + 2) v (by simp; omega) (by rw [show off + (i + 2) = off + 2 + i by omega]; exact hv)
    rw [show off' + 2 + i = off' + (i + 2) by omega]; exact this
theorem InEntry.le {w wp u up : World} {xs : List REntry} {b off : Nat} (h : InEntry w wp xs b off) (k : CLe w u) (k2 : CLe wp up) : InEntry u up xs b off := h.move (fun i v _ hv => k _ _ hv) k2
theorem InEntry.app {w wp : World} {P Q : List REntry} {b off : Nat} (h : InEntry w wp P b off) (k : InEntry w wp Q b (off + P.length * 2)) : InEntry w wp (P ++ Q) b off := by
  induction P generalizing off with
  | nil => simpa using k
  | cons x r ih =>
    refine ⟨h.1, ih h.2 ?_⟩
    rw [show off + 2 + r.length * 2 = off + (x :: r).length * 2 by simp; omega]; exact k
theorem SlEntry.le {w u : World} {a : Option Addr} {l : Nat} {xs : List REntry} (h : SlEntry w a l xs) (k : CLe w u) : SlEntry u a l xs := by
  obtain ⟨h1, h2, h3⟩ := h
  refine ⟨h1, h2, ?_⟩
  rcases h3 with h3 | ⟨b, o, e, h3⟩
  · exact .inl h3
  · exact .inr ⟨b, o, e, h3.le k k⟩
theorem SlEntry.none {w u : World} {a : Option Addr} {l : Nat} {xs : List REntry} (h : SlEntry w a l xs) (k : w.grownBy u Option.none) : SlEntry u a l xs := h.le (CLe.grown k)
theorem SlEntry.cases {w : World} {a : Option Addr} {l : Nat} {xs : List REntry} (h : SlEntry w a l xs) : (l = 0 ∧ xs = []) ∨ ∃ b o, a = some ⟨b, o, Option.none⟩ ∧ InEntry w w xs b o ∧ 0 < l := by
  obtain ⟨h1, h2, h3⟩ := h
  by_cases h0 : l = 0
  · exact .inl ⟨h0, List.eq_nil_of_length_eq_zero (by omega)⟩
  · rcases h3 with h3 | ⟨b, o, e, h3⟩
    · exact absurd h3 h0
    · exact .inr ⟨b, o, e, h3, by omega⟩
def szEntrys : List REntry → Nat
  | [] => 0
  | x :: r => 1 + szEntry x + szEntrys r
theorem szEntrys_len : ∀ xs : List REntry, xs.length ≤ szEntrys xs
  | [] => Nat.le_refl _
  | x :: r => by have := szEntrys_len r; simp only [List.length_cons, szEntrys]; omega

theorem szEntrys_eq : ∀ xs : List REntry, szEntrys xs = xs.length
  | [] => rfl
  | x :: r => by simp only [szEntrys, szEntry, szEntrys_eq r, List.length_cons]; omega

set_option maxHeartbeats 2000000 in
theorem szEntrysT (xs : List REntry) (a : Option Addr) (l c : Nat) (L : Int) (w : World) (h : SlEntry w a l xs) (h0 : 0 ≤ L) (h1 : L ≤ 1048576) :
    Calls Try.prog 35 #[.slice a l c, .int .i64 L] w fun e u => SzW L (szEntrys xs) e ∧ w.grownBy u none := by
  have hl := h.2.1
  have E : Hid (szEntrys xs = l) := (szEntrys_eq xs).trans h.1
  clear h
  by_cases hneg : L - (l : Int) < 0
  · go_enter Try.func35, Try.ntmps35
    go_wp2
    go_ret
    exact ⟨⟨-1, rfl, .inl rfl⟩, World.grownBy.refl _ _⟩
  · go_enter Try.func35, Try.ntmps35
    go_wp2
    go_ret
    exact ⟨⟨L - l, by go_num, .inr ⟨by omega, by rw [E.out]; omega⟩⟩, World.grownBy.refl _ _⟩

set_option maxRecDepth 4000 in
set_option maxHeartbeats 4000000 in
theorem eqEntrysT (xs : List REntry) (a a' : Option Addr) (l c c' : Nat) (w : World) (h : SlEntry w a l xs) (h' : SlEntry w a' l xs) (hs : szEntrys xs ≤ 2097152) :
    Calls Try.prog 42 #[.slice a l c, .slice a' l c'] w fun e u => e = .returned (.bool true) ∧ w.grownBy u none := by
  have hl := h.2.1
  have hfl := h.1
  rcases h.cases with ⟨rfl, rfl⟩ | ⟨b, o, rfl, hin, hpos⟩
  · go_enter Try.func42, Try.ntmps42
    go_wp2
    refine wp_loop_rounds 1 ?_
    rw [rounds_succ]
    go_wp2
    go_ret
    exact ⟨rfl, World.grownBy.refl _ _⟩
  rcases h'.cases with ⟨rfl, rfl⟩ | ⟨b', o', rfl, hin', -⟩
  · exact absurd hpos (by omega)
  have IN : Hid (InEntry w w xs b o ∧ InEntry w w xs b' o') := ⟨hin, hin'⟩
  clear hin hin' h h'
  go_enter Try.func42, Try.ntmps42
  go_wp2
  go_loopw [5] (fun i wr => ∃ (j : Nat) (R : List REntry), j ≤ l ∧ i = .int .i64 j ∧ Hid (w.grownBy wr none ∧ InEntry wr wr R b (o + j * 2) ∧ InEntry wr wr R b' (o' + j * 2)) ∧ szEntrys R ≤ 2097152 ∧ R.length + j = l) (fun i _ => l - (intOf i).toNat)
  case atStart => exact ⟨0, xs, Nat.zero_le _, rfl, ⟨World.grownBy.refl _ _, by simpa using IN.out.1, by simpa using IN.out.2⟩, hs, by omega⟩
  case round =>
    obtain ⟨j, R, hj, rfl, HR, hRs, hRl⟩ := hrel
    by_cases hlt : j < l
    · obtain ⟨x, R', rfl⟩ : ∃ x R', R = x :: R' := by
        cases R with
        | nil => simp at hRl; omega
        | cons x R' => exact ⟨x, R', rfl⟩
      obtain ⟨hg, ⟨⟨a1, l1, c1, ⟨k0, k1⟩, hd⟩, hR2⟩, ⟨⟨f1, n1, g1, ⟨m0, m1⟩, hd2⟩, hR3⟩⟩ := HR.out
      rw [show o + j * 2 + 2 = o + (j + 1) * 2 by omega] at hR2
      rw [show o' + j * 2 + 2 = o' + (j + 1) * 2 by omega] at hR3
      simp only [szEntrys] at hRs
      have gd := grown_drew (World.grownBy.refl wr none)
      have gc := CLe.grown gd
      have CC : Hid _ := eqEntryT x a1 f1 l1 c1 g1 wr.drew (hd.none gd) (hd2.none gd) (by omega)
      skip
      have TT : Hid (∀ u, wr.grownBy u none → ((u.cell? ⟨b, o + j * 2, none⟩ = some (.int .i64 x.key) ∧ u.cell? ⟨b, o + j * 2 + 1, none⟩ = some (.int .i64 x.val)) ∧ u.cell? ⟨b', o' + j * 2, none⟩ = some (.int .i64 x.key) ∧ u.cell? ⟨b', o' + j * 2 + 1, none⟩ = some (.int .i64 x.val))) := fun u hu => ⟨⟨hu.cell k0 (by simp), hu.cell k1 (by simp)⟩, hu.cell m0 (by simp), hu.cell m1 (by simp)⟩
      have FX : Hid (w.grownBy wr.drew none ∧ InEntry wr.drew wr.drew R' b (o + (j + 1) * 2) ∧ InEntry wr.drew wr.drew R' b' (o' + (j + 1) * 2) ∧ wr.grownBy wr.drew none) := ⟨grown_trans hg gd, hR2.le gc gc, hR3.le gc gc, gd⟩
      clear hd hd2 hR2 hR3 hg IN HR gd gc k0 k1 m0 m1
      simp only [List.length_cons] at hRl
      go_wp2_with fail
      refine wp_region_held_drew (S := (fun u => ((u.cell? ⟨b, o + j * 2, none⟩ = some (.int .i64 x.key) ∧ u.cell? ⟨b, o + j * 2 + 1, none⟩ = some (.int .i64 x.val)) ∧ u.cell? ⟨b', o' + j * 2, none⟩ = some (.int .i64 x.key) ∧ u.cell? ⟨b', o' + j * 2 + 1, none⟩ = some (.int .i64 x.val)))) (by kernel_rfl) (TT.out _ FX.out.2.2.2) (fun hH => ?_)
      generalize wr.drew = u at *
      simp only [List.size_toArray, List.length_cons, List.length_nil, Nat.reduceAdd, Array.replicate, List.replicate]
      refine wpAnyH_take (i := 0) (v := ?_) rfl (by kernel_rfl) (by kernel_rfl) (by kernel_rfl) (fun _ _ _ h => h) (Or.inl ⟨by rfl, ?_⟩) hH ?_
      rotate_left
      · (intro v hS; obtain ⟨⟨s0, s1⟩, t0, t1⟩ := hS; go_simp; try with_reducible rfl)
      simp only [Act.put, List.setIfInBounds_toArray, List.set_cons_zero, List.set_cons_succ, List.getElem_toArray, List.getElem_cons_succ, List.getElem_cons_zero]
      refine wpAnyH_take (i := 1) (v := ?_) rfl (by kernel_rfl) (by kernel_rfl) (by kernel_rfl) (fun _ _ _ h => h) (Or.inl ⟨by rfl, ?_⟩) hH ?_
      rotate_left
      · (intro v hS; obtain ⟨⟨s0, s1⟩, t0, t1⟩ := hS; go_simp; try with_reducible rfl)
      simp only [Act.put, List.setIfInBounds_toArray, List.set_cons_zero, List.set_cons_succ, List.getElem_toArray, List.getElem_cons_succ, List.getElem_cons_zero]
      refine wpAnyH_take (i := 2) (v := ?_) rfl (by kernel_rfl) (by kernel_rfl) (by kernel_rfl) (fun _ _ _ h => h) (Or.inl ⟨by rfl, ?_⟩) hH ?_
      rotate_left
      · (intro v hS; obtain ⟨⟨s0, s1⟩, t0, t1⟩ := hS; go_simp; try with_reducible rfl)
      simp only [Act.put, List.setIfInBounds_toArray, List.set_cons_zero, List.set_cons_succ, List.getElem_toArray, List.getElem_cons_succ, List.getElem_cons_zero]
      refine wpAnyH_take (i := 3) (v := ?_) rfl (by kernel_rfl) (by kernel_rfl) (by kernel_rfl) (fun _ _ _ h => h) (Or.inl ⟨by rfl, ?_⟩) hH ?_
      rotate_left
      · (intro v hS; obtain ⟨⟨s0, s1⟩, t0, t1⟩ := hS; go_simp; try with_reducible rfl)
      simp only [Act.put, List.setIfInBounds_toArray, List.set_cons_zero, List.set_cons_succ, List.getElem_toArray, List.getElem_cons_succ, List.getElem_cons_zero]
      refine wpAnyH_take (i := 4) (v := ?_) rfl (by kernel_rfl) (by kernel_rfl) (by kernel_rfl) (fun _ _ _ h => h) (Or.inl ⟨by rfl, ?_⟩) hH ?_
      rotate_left
      · (intro v hS; obtain ⟨⟨s0, s1⟩, t0, t1⟩ := hS; go_simp; try with_reducible rfl)
      simp only [Act.put, List.setIfInBounds_toArray, List.set_cons_zero, List.set_cons_succ, List.getElem_toArray, List.getElem_cons_succ, List.getElem_cons_zero]
      refine wpAnyH_take (i := 5) (v := ?_) rfl (by kernel_rfl) (by kernel_rfl) (by kernel_rfl) (fun _ _ _ h => h) (Or.inl ⟨by rfl, ?_⟩) hH ?_
      rotate_left
      · (intro v hS; obtain ⟨⟨s0, s1⟩, t0, t1⟩ := hS; go_simp; try with_reducible rfl)
      simp only [Act.put, List.setIfInBounds_toArray, List.set_cons_zero, List.set_cons_succ, List.getElem_toArray, List.getElem_cons_succ, List.getElem_cons_zero]
      refine wpAnyH_take (i := 6) (v := ?_) rfl (by kernel_rfl) (by kernel_rfl) (by kernel_rfl) (fun _ _ _ h => h) (Or.inl ⟨by rfl, ?_⟩) hH ?_
      rotate_left
      · (intro v hS; obtain ⟨⟨s0, s1⟩, t0, t1⟩ := hS; go_simp; try with_reducible rfl)
      simp only [Act.put, List.setIfInBounds_toArray, List.set_cons_zero, List.set_cons_succ, List.getElem_toArray, List.getElem_cons_succ, List.getElem_cons_zero]
      refine wpAnyH_take (i := 7) (v := ?_) rfl (by kernel_rfl) (by kernel_rfl) (by kernel_rfl) (fun _ _ _ h => h) (Or.inl ⟨by rfl, ?_⟩) hH ?_
      rotate_left
      · (intro v hS; obtain ⟨⟨s0, s1⟩, t0, t1⟩ := hS; go_simp; try with_reducible rfl)
      simp only [Act.put, List.setIfInBounds_toArray, List.set_cons_zero, List.set_cons_succ, List.getElem_toArray, List.getElem_cons_succ, List.getElem_cons_zero]
      refine wpAnyH_ready (rs := [8]) (by kernel_rfl) (by simp) ?_
      refine AllReadyH.cons rfl (fun K hK => ?_) AllReadyH.nil
      go_simp
      refine Calls.mono CC.out ?_
      rintro e u2 ⟨he, hgu⟩
      subst he
      refine hK.out _ _ (TT.out _ (grown_trans FX.out.2.2.2 hgu)) (fun hH2 => ?_)
      clear hK K hH
      have hH := hH2
      clear hH2
      have FY : Hid (w.grownBy u2 none ∧ InEntry u2 u2 R' b (o + (j + 1) * 2) ∧ InEntry u2 u2 R' b' (o' + (j + 1) * 2)) := ⟨grown_trans FX.out.1 hgu, FX.out.2.1.le (CLe.grown hgu) (CLe.grown hgu), FX.out.2.2.1.le (CLe.grown hgu) (CLe.grown hgu)⟩
      clear FX hgu CC TT
      simp only [Act.put, List.setIfInBounds_toArray, List.set_cons_zero, List.set_cons_succ, List.getElem_toArray, List.getElem_cons_succ, List.getElem_cons_zero]
      refine wpAnyH_take (i := 9) (v := ?_) rfl (by kernel_rfl) (by kernel_rfl) (by kernel_rfl) (fun _ _ _ h => h) (Or.inl ⟨by rfl, ?_⟩) hH ?_
      rotate_left
      · (intro v hS; go_simp; try with_reducible rfl)
      simp only [Act.put, List.setIfInBounds_toArray, List.set_cons_zero, List.set_cons_succ, List.getElem_toArray, List.getElem_cons_succ, List.getElem_cons_zero]
      refine wpAnyH_done (by kernel_rfl) ?_ _
      go_wp2
      go_roundw
      case rel => exact ⟨j + 1, R', by omega, by go_num, FY, by omega, by omega⟩
      case measure => simp [intOf]; omega
    · obtain rfl : j = l := by omega
      have E : Hid (w.grownBy wr none) := HR.out.1
      clear HR IN
      go_wp2
      go_ret
      exact ⟨rfl, E.out⟩

theorem BlkN.putsEntry {w : World} {t : TypeId} {g k : Nat} (h : BlkN w t g k) (j : Nat) (hj : j + 1 < k) (v0 v1 : Value) : BlkN ((w.setCell ⟨g, j, none⟩ (v0)).setCell ⟨g, j + 1, none⟩ (v1)) t g k ∧ w.grownBy ((w.setCell ⟨g, j, none⟩ (v0)).setCell ⟨g, j + 1, none⟩ (v1)) (some g) ∧ (((w.setCell ⟨g, j, none⟩ (v0)).setCell ⟨g, j + 1, none⟩ (v1)).cell? ⟨g, j, none⟩ = some v0 ∧ ((w.setCell ⟨g, j, none⟩ (v0)).setCell ⟨g, j + 1, none⟩ (v1)).cell? ⟨g, j + 1, none⟩ = some v1) ∧ ∀ i, i < j → ((w.setCell ⟨g, j, none⟩ (v0)).setCell ⟨g, j + 1, none⟩ (v1)).cell? ⟨g, i, none⟩ = w.cell? ⟨g, i, none⟩ := by
  obtain ⟨h0, k0, c0, o0⟩ := h.set (j) (by omega) v0
  obtain ⟨h1, k1, c1, o1⟩ := h0.set (j + 1) (by omega) v1
  exact ⟨h1, grown_trans (k0) k1, ⟨(o1 j (by omega)).trans (c0), c1⟩, fun i hi => (o1 i (by omega)).trans (o0 i (by omega))⟩

theorem infoSEntry : (Try.prog.info? 66).map (fun i => (i.zero, i.size, i.bytes)) = some (some (.agg #[.int .i64 0, .int .i64 0]), 2, 16) := by kernel_rfl

theorem makeSEntry (n : Nat) (hn : n ≤ 4194304) (w : World) : (Instr.makeSlice 24 (.int .i64 (n : Int)) (.int .i64 (n : Int))).run Try.prog w = .ok (.slice (some ⟨w.heap.size, 0, none⟩) n n) (w.alloc (.cells (madeCells #[.int .i64 0, .int .i64 0] (n * 2)) 66)) := by
  obtain ⟨i0, hi, hz0, hz1, hz2⟩ := info_parts infoSEntry
  have h := run_make (P := Try.prog) (w := w) 24 66 i0 _ Try.underlying24 hi hz0 .i64 .i64 (n : Int) (n : Int) (by omega) (by omega) (by rw [hz2]; omega) (by omega)
  rw [hz1] at h
  simpa [Value.cells] using h
theorem makeSEntry0 (w : World) : (Instr.makeSlice 24 (.int .i64 0) (.int .i64 0)).run Try.prog w = .ok (.slice (some ⟨w.heap.size, 0, none⟩) 0 0) (w.alloc (.cells (madeCells #[.int .i64 0, .int .i64 0] 0) 66)) := makeSEntry 0 (by omega) w
theorem madeSEntry_blk (w : World) (n : Nat) : BlkN (w.alloc (.cells (madeCells #[.int .i64 0, .int .i64 0] (n * 2)) 66)) 66 w.heap.size (n * 2) := ⟨_, heap_alloc_new w _, by simp [madeCells]⟩

set_option maxRecDepth 4000 in
set_option maxHeartbeats 4000000 in
theorem toEntrysT (xs : List REntry) (a : Option Addr) (l c : Nat) (w : World) (h : SlEntry w a l xs) (hs : szEntrys xs ≤ 1048576) :
    Calls Try.prog 39 #[.slice a l c] w fun e u => ∃ a' c', e = .returned (.slice a' l c') ∧ w.grownBy u none ∧ SlEntry (hideZ u w.heap.size) a' l xs := by
  have hlen := szEntrys_len xs
  have hl := h.2.1
  have hfl := h.1
  rcases h.cases with ⟨rfl, rfl⟩ | ⟨b, o, rfl, hin, hpos⟩
  · have hmk := makeSEntry0
    go_enter Try.func39, Try.ntmps39
    go_wp2
    refine wp_loop_rounds 1 ?_
    rw [rounds_succ]
    go_wp2
    go_ret
    exact ⟨_, _, rfl, World.grownBy_alloc _ _ _, ⟨rfl, by omega, .inl rfl⟩⟩
  have hmk := makeSEntry l (by omega)
  have hb0 := madeSEntry_blk w l
  have IN : Hid (InEntry w w xs b o) := hin
  have HB : Hid _ := hb0
  clear hin h hb0
  skip
  go_enter Try.func39, Try.ntmps39
  go_wp2
  go_loopw [4] (fun i wr => ∃ (j : Nat) (P R : List REntry), j ≤ l ∧ i = .int .i64 j ∧ P.length = j ∧ R.length + j = l ∧ szEntrys R ≤ 1048576 ∧ Hid (w.grownBy wr none ∧ InEntry w w R b (o + j * 2) ∧ BlkN wr 66 w.heap.size (l * 2) ∧ InEntry wr (hideZ wr (w.heap.size + 1)) P w.heap.size 0 ∧ P ++ R = xs)) (fun i _ => l - (intOf i).toNat)
  case atStart => exact ⟨0, [], xs, Nat.zero_le _, rfl, rfl, by omega, hs, World.grownBy_alloc _ _ _, by simpa using IN.out, HB.out, trivial, rfl⟩
  case round =>
    obtain ⟨j, P, R, hj, rfl, hPl, hRl, hRs, HR⟩ := hrel
    by_cases hlt : j < l
    · obtain ⟨x, R', rfl⟩ : ∃ x R', R = x :: R' := by
        cases R with
        | nil => simp at hRl; omega
        | cons x R' => exact ⟨x, R', rfl⟩
      obtain ⟨hg, ⟨⟨a1, l1, c1, ⟨k0, k1⟩, hd⟩, hR2⟩, hB, hP, hcs⟩ := HR.out
      rw [show o + j * 2 + 2 = o + (j + 1) * 2 by omega] at hR2
      simp only [szEntrys] at hRs
      simp only [List.length_cons] at hRl
      have k0 := hg.cell k0 (by simp)
      have k1 := hg.cell k1 (by simp)
      skip
      have CC : Hid _ := toEntryT x a1 l1 c1 wr (hd.none hg) (by omega)
      have FX : Hid (w.grownBy wr none ∧ InEntry w w R' b (o + (j + 1) * 2) ∧ BlkN wr 66 w.heap.size (l * 2) ∧ InEntry wr (hideZ wr (w.heap.size + 1)) P w.heap.size 0 ∧ (P ++ [x]) ++ R' = xs) := ⟨hg, hR2, hB, hP, by rw [List.append_assoc]; exact hcs⟩
      clear hd hR2 hg hB hP hcs IN HR hmk HB
      go_wp2_with fail
      refine Calls.mono CC.out ?_
      rintro e u ⟨t1, w1, he, hgu, hr⟩
      subst he
      have hBu := FX.out.2.2.1.of (hgu.block _ FX.out.2.2.1.lt (by simp))
      obtain ⟨q0, qq0⟩ := hBu.has (j * 2) (by omega)
      have ff0 := hBu.free (j * 2)
      obtain ⟨q1, qq1⟩ := hBu.has (j * 2 + 1) (by omega)
      have ff1 := hBu.free (j * 2 + 1)
      have FY : Hid (BlkN u 66 w.heap.size (l * 2) ∧ wr.grownBy u none ∧ RdEntry (hideZ u wr.heap.size) x t1 l1) := ⟨hBu, hgu, hr⟩
      clear CC hgu hr hBu k0 k1
      simp only []
      go_wp2
      obtain ⟨hg, hR2, hB, hP, hcs⟩ := FX.out
      obtain ⟨hBu, hgu, hr⟩ := FY.out
      have hsz := hB.lt
      obtain ⟨hB3, hk3, tq, hoth⟩ := hBu.putsEntry (j * 2) (by omega) (.int .i64 x.key) (.int .i64 x.val)
      have hfx : ∀ i, w.heap.size + 1 ≤ i → i < wr.heap.size → _ = wr.heap[i]? := fun i h1 h2 => (hk3.block i (Nat.lt_of_lt_of_le h2 hgu.size) (by simp; omega)).trans (hgu.block i h2 (by simp))
      have hfu : ∀ i, wr.heap.size ≤ i → i < u.heap.size → _ = u.heap[i]? := fun i h1 h2 => hk3.block i h2 (by simp; omega)
      have hP2 := hP.move (b' := w.heap.size) (off' := 0) (fun i v hi hv => (hoth (0 + i) (by rw [hPl] at hi; omega)).trans (hgu.cell hv (by simp))) (CLe.hidz (Nat.le_refl _) hfx)
      have cl := CLe.hidz (lo' := w.heap.size + 1) (by omega) hfu
      have hQ := hP2.app (Q := [x]) ⟨⟨t1, l1, w1, ⟨by rw [hPl, Nat.zero_add]; exact tq.1, by rw [hPl, Nat.zero_add]; exact tq.2⟩, hr.le cl⟩, trivial⟩
      go_roundw
      case rel => exact ⟨j + 1, P ++ [x], R', by omega, by go_num, by simp [hPl], by omega, by omega, grown_into (grown_trans hg hgu) hk3 (Nat.le_refl _), hR2, hB3, hQ, hcs⟩
      case measure => simp [intOf]; omega
    · obtain rfl : j = l := by omega
      obtain rfl : R = [] := List.eq_nil_of_length_eq_zero (by omega)
      obtain ⟨hg, -, hB, hP, hcs⟩ := HR.out
      rw [List.append_nil] at hcs
      subst hcs
      have FQ : Hid (w.grownBy wr none ∧ SlEntry (hideZ wr w.heap.size) (some ⟨w.heap.size, 0, none⟩) j P) := ⟨hg, hPl, by omega, .inr ⟨_, _, rfl, hP.move (fun i v hi hv => (hideZ_cell (Nat.le_refl _) hB).trans hv) (CLe.hidz (Nat.le_succ _) (fun _ _ _ => rfl))⟩⟩
      clear hg hB hP HR IN HB
      go_wp2
      go_ret
      exact ⟨_, _, rfl, FQ.out.1, FQ.out.2⟩
end Go.Proofs.Ytccnninmkfhejaa.By
