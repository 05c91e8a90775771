/-
  How many nodes, counted down in one cell: the specification's count by its contract. No statement is proved here.
-/
import Derived.Test.YtbeejgacdcncgaaGNL
import Derived.Test.YtbeejgacdcncgaaEC0
import Derived.Deep.DeepCutAuto
namespace Go.Proofs.Ytbeejgacdcncgaa.By
open Go.RowKit
set_option linter.unusedVariables false
set_option linter.unusedSimpArgs false

/-- A world without one block. -/
def hideP (w : World) (pb : Nat) : World := { w with heap := w.heap.mapIdx fun i o => if i = pb then .map #[] 0 else o }
theorem hideP_heap {w : World} {pb i : Nat} (h : i ≠ pb) : (hideP w pb).heap[i]? = w.heap[i]? := by
  unfold hideP
  rw [Array.getElem?_mapIdx]
  simp only [if_neg h]
  cases w.heap[i]? <;> rfl
theorem hideP_same {w : World} {pb : Nat} {p : Addr} (h : p.block = pb) : (hideP w pb).cell? p = none := by
  have e : (hideP w pb).heap[p.block]? = none ∨ (hideP w pb).heap[p.block]? = some (.map #[] 0) := by
    unfold hideP
    rw [Array.getElem?_mapIdx]
    simp only [if_pos h]
    cases w.heap[p.block]? with
    | none => exact .inl rfl
    | some o => exact .inr rfl
  rcases e with e | e <;> simp [World.cell?, e]
theorem hideP_cell {w : World} {pb : Nat} {p : Addr} (h : p.block ≠ pb) : (hideP w pb).cell? p = w.cell? p := cell_any (hideP_heap h)
theorem CLe.hideP {w u : World} {pb : Nat} (h : w.grownBy u (some pb)) : CLe (By.hideP w pb) (By.hideP u pb) := by
  intro p v hv
  by_cases hp : p.block = pb
  · rw [hideP_same hp] at hv; simp at hv
  · rw [hideP_cell hp] at hv ⊢
    exact h.cell hv (by simp; exact hp)
theorem CLe.unhideP {w : World} {pb : Nat} : CLe (By.hideP w pb) w := by
  intro p v hv
  by_cases hp : p.block = pb
  · rw [hideP_same hp] at hv; simp at hv
  · rw [hideP_cell hp] at hv; exact hv
theorem CLe.allocP {w : World} {o : Obj} : CLe w (By.hideP (w.alloc o) w.heap.size) := by
  intro p v hv
  have hlt : p.block < w.heap.size := block_lt_of_cell hv
  rw [hideP_cell (by omega)]
  exact (World.grownBy_alloc w o none).cell hv (by simp)
theorem one1 {w : World} {g : Nat} {t : TypeId} {c0 : Value} (h : w.heap[g]? = some (.cells #[c0] t (0, 0))) : w.cell? ⟨g, 0, none⟩ = some c0 ∧ w.frozen? ⟨g, 0, none⟩ = false := by
  refine ⟨?_, frozen_of_row w g _ _ t h⟩
  rw [cell_of_row w g _ _ t (0, 0) h]; rfl

theorem results_none0 {P : Program} {fn : Func} (h : fn.results = #[]) (tmps : Array Value) (w : World) : (results fn tmps).run P w = .ok (.tuple #[]) w := by simp [results, h]
theorem wide_noneP {a b : World} (h : a.grownBy b none) (row : Option Nat) : a.grownBy b row := ⟨h.os, h.tape, h.output, h.size, fun i hi _ => h.block i hi (by simp)⟩

set_option maxRecDepth 4000 in
set_option maxHeartbeats 8000000 in
theorem lpT_of (m : Nat) (ih : ∀ (p : PL) (a1 : Option Addr) (l1 c1 : Nat) (a2 : Option Addr) (l2 c2 : Nat) (a3 : Option Addr) (l3 c3 : Nat) (a4 : Option Addr) (l4 c4 : Nat) (a5 : Option Addr) (l5 c5 : Nat) (kids alts : GL) (L pb : Nat) (w : World), kids.cnt + alts.cnt + 1 ≤ m → w.heap[pb]? = some (.cells #[.int .i64 (L : Nat)] 3 (0, 0)) → SlGL (hideP w pb) false a4 l4 kids → SlGL (hideP w pb) true a5 l5 alts → L ≤ 1501 →
    Calls Try.prog 25 #[.agg #[.int .i64 p.k, .int .i64 p.n, .int .i64 p.m, .int .i64 p.c, .slice a1 l1 c1, .int .i64 p.tk, .int .i64 p.tn, .slice a2 l2 c2, .int .i64 p.uk, .int .i64 p.un, .slice a3 l3 c3, .slice a4 l4 c4, .slice a5 l5 c5], .pointer (some ⟨pb, 0, none⟩)] w fun e u => e = .returned (.tuple #[]) ∧ u.heap[pb]? = some (.cells #[.int .i64 (L - (1 + kids.cnt + alts.cnt) : Nat)] 3 (0, 0)) ∧ w.grownBy u (some pb)) : ∀ (p : PL) (a1 : Option Addr) (l1 c1 : Nat) (a2 : Option Addr) (l2 c2 : Nat) (a3 : Option Addr) (l3 c3 : Nat) (a4 : Option Addr) (l4 c4 : Nat) (a5 : Option Addr) (l5 c5 : Nat) (kids alts : GL) (L pb : Nat) (w : World), kids.cnt + alts.cnt ≤ m → w.heap[pb]? = some (.cells #[.int .i64 (L : Nat)] 3 (0, 0)) → SlGL (hideP w pb) false a4 l4 kids → SlGL (hideP w pb) true a5 l5 alts → L ≤ 1501 →
    Calls Try.prog 25 #[.agg #[.int .i64 p.k, .int .i64 p.n, .int .i64 p.m, .int .i64 p.c, .slice a1 l1 c1, .int .i64 p.tk, .int .i64 p.tn, .slice a2 l2 c2, .int .i64 p.uk, .int .i64 p.un, .slice a3 l3 c3, .slice a4 l4 c4, .slice a5 l5 c5], .pointer (some ⟨pb, 0, none⟩)] w fun e u => e = .returned (.tuple #[]) ∧ u.heap[pb]? = some (.cells #[.int .i64 (L - (1 + kids.cnt + alts.cnt) : Nat)] 3 (0, 0)) ∧ w.grownBy u (some pb) := by
  intro p a1 l1 c1 a2 l2 c2 a3 l3 c3 a4 l4 c4 a5 l5 c5 kids alts L pb w hm hpb h4 h5 hL
  have hl4 := h4.2.1
  have hl5 := h5.2.1
  have IH : Hid _ := ih
  have hpl := lt_of_block hpb
  have g0 := World.grownBy_alloc w (.cells #[.int .i64 p.k, .int .i64 p.n, .int .i64 p.m, .int .i64 p.c, .slice a1 l1 c1, .int .i64 p.tk, .int .i64 p.tn, .slice a2 l2 c2, .int .i64 p.uk, .int .i64 p.un, .slice a3 l3 c3, .slice a4 l4 c4, .slice a5 l5 c5] 38) none
  have b0 := heap_alloc_new w (.cells #[.int .i64 p.k, .int .i64 p.n, .int .i64 p.m, .int .i64 p.c, .slice a1 l1 c1, .int .i64 p.tk, .int .i64 p.tn, .slice a2 l2 c2, .int .i64 p.uk, .int .i64 p.un, .slice a3 l3 c3, .slice a4 l4 c4, .slice a5 l5 c5] 38)
  have c0 := (g0.block _ hpl (by simp)).trans hpb
  obtain ⟨z0, z1⟩ := one1 c0
  by_cases hz : L = 0
  · subst hz
    have FQ : Hid (w.grownBy _ none ∧ _ = _) := ⟨g0, c0⟩
    clear ih IH h4 h5 g0 b0 c0
    go_enter Try.func25, Try.ntmps25
    go_wp2
    refine bodyPost_ret (results_none0 (P := Try.prog) Try.results25 _ _) rfl ?_
    exact ⟨rfl, by rw [Nat.zero_sub]; exact FQ.out.2, wide_noneP FQ.out.1 _⟩
  have hLL : ((L : Int) - 1) = ((L - 1 : Nat) : Int) := by omega
  have hLz : ¬ ((L : Int) = 0) := by omega
  have H0 : Hid (TlGL (hideP w pb) false a4 0 l4 kids ∧ ∀ u, w.grownBy u (some pb) → TlGL (hideP u pb) true a5 0 l5 alts) := ⟨h4.tl, fun u hu => h5.tl.le (CLe.hideP hu)⟩
  have k0 := grown_setCell w pb 0 (.int .i64 ((L - 1 : Nat) : Int))
  have d0 : (w.setCell ⟨pb, 0, none⟩ (.int .i64 ((L - 1 : Nat) : Int))).heap[pb]? = some (.cells #[.int .i64 ((L - 1 : Nat) : Int)] 3 (0, 0)) := heap_setCell_same w pb 0 _ _ (.int .i64 ((L - 1 : Nat) : Int)) hpb
  have ga := World.grownBy_alloc (w.setCell ⟨pb, 0, none⟩ (.int .i64 ((L - 1 : Nat) : Int))) (.cells #[.int .i64 p.k, .int .i64 p.n, .int .i64 p.m, .int .i64 p.c, .slice a1 l1 c1, .int .i64 p.tk, .int .i64 p.tn, .slice a2 l2 c2, .int .i64 p.uk, .int .i64 p.un, .slice a3 l3 c3, .slice a4 l4 c4, .slice a5 l5 c5] 38) none
  have d1 := heap_alloc_new (w.setCell ⟨pb, 0, none⟩ (.int .i64 ((L - 1 : Nat) : Int))) (.cells #[.int .i64 p.k, .int .i64 p.n, .int .i64 p.m, .int .i64 p.c, .slice a1 l1 c1, .int .i64 p.tk, .int .i64 p.tn, .slice a2 l2 c2, .int .i64 p.uk, .int .i64 p.un, .slice a3 l3 c3, .slice a4 l4 c4, .slice a5 l5 c5] 38)
  have es : (w.setCell ⟨pb, 0, none⟩ (.int .i64 ((L - 1 : Nat) : Int))).heap.size = w.heap.size := by simp
  rw [es] at d1
  have FQ : Hid _ := And.intro (grown_trans k0 (wide_noneP ga (some pb))) (And.intro ((ga.block _ (lt_of_block d0) (by simp)).trans d0) d1)
  have hne : w.heap.size ≠ pb := by omega
  clear ih h4 h5 g0 b0 c0 k0 d0 d1 ga es
  go_enter Try.func25, Try.ntmps25
  go_wp2
  generalize hp0 : w.heap.size = p0 at *
  clear hp0
  have hL0 : ((L : Int) == 0) = false := by simp; omega
  simp only [hL0]
  go_loopw [4] (fun i wr => ∃ (j s : Nat) (R : GL), j ≤ l4 ∧ i = .int .i64 j ∧ Hid (w.grownBy wr (some pb) ∧ wr.heap[pb]? = some (.cells #[.int .i64 (L - 1 - s : Nat)] 3 (0, 0)) ∧ wr.heap[p0]? = some (.cells #[.int .i64 p.k, .int .i64 p.n, .int .i64 p.m, .int .i64 p.c, .slice a1 l1 c1, .int .i64 p.tk, .int .i64 p.tn, .slice a2 l2 c2, .int .i64 p.uk, .int .i64 p.un, .slice a3 l3 c3, .slice a4 l4 c4, .slice a5 l5 c5] 38 (0, 0)) ∧ TlGL (hideP wr pb) false a4 j l4 R ∧ s + R.cnt = kids.cnt)) (fun i _ => l4 - (intOf i).toNat)
  case atStart => exact ⟨0, 0, kids, Nat.zero_le _, rfl, FQ.out.1, FQ.out.2.1, FQ.out.2.2, H0.out.1.le (CLe.hideP FQ.out.1), by omega⟩
  case round =>
    clear FQ z0 z1
    obtain ⟨j, s, R, hj, rfl, HR⟩ := hrel
    by_cases hlt : j < l4
    · skip
      obtain ⟨hgr, hpb, hp0, ⟨hRl, hR⟩, hsum⟩ := HR.out
      obtain ⟨q', hq'⟩ : ∃ q', R.len = q' + 1 := ⟨R.len - 1, by omega⟩
      rcases hR with rfl | ⟨b4, o4, ea, hin⟩
      · simp [GL.len] at hq'
      obtain ⟨hc, hv, pp, kk, aa, R', rfl, hR'⟩ := GL.cons_of_len hq'
      simp only [wdL] at hin
      obtain ⟨-, e1, f1, g1, e2, f2, g2, e3, f3, g3, e4, f4, g4, e5, f5, g5, kc, hnd, hR2⟩ := hin.kid
      have CC : Hid _ := IH.out pp e1 f1 g1 e2 f2 g2 e3 f3 g3 e4 f4 g4 e5 f5 g5 kk aa (L - 1 - s) pb wr (by simp only [GL.cnt] at hsum; omega) hpb hnd.2.2.2.1 hnd.2.2.2.2 (by omega)
      obtain ⟨k0, k1, k2, k3, k4, k5, k6, k7, k8, k9, k10, k11, k12⟩ := kc.le CLe.unhideP
      have FX : Hid (w.grownBy wr (some pb) ∧ wr.heap[p0]? = some (.cells #[.int .i64 p.k, .int .i64 p.n, .int .i64 p.m, .int .i64 p.c, .slice a1 l1 c1, .int .i64 p.tk, .int .i64 p.tn, .slice a2 l2 c2, .int .i64 p.uk, .int .i64 p.un, .slice a3 l3 c3, .slice a4 l4 c4, .slice a5 l5 c5] 38 (0, 0)) ∧ InGL (hideP wr pb) (hideP wr pb) false R' b4 (o4 + (j + 1) * 13) ∧ (s + (1 + kk.cnt + aa.cnt)) + R'.cnt = kids.cnt ∧ p0 ≠ pb) := ⟨hgr, hp0, by rw [show o4 + (j + 1) * 13 = o4 + j * 13 + 13 by omega]; exact hR2, by simp only [GL.cnt] at hsum; omega, hne⟩
      obtain ⟨⟨y0, y1, y2, y3, y4, y5, y6, y7, y8, y9, y10, y11, y12⟩, -⟩ := blkL hp0
      clear hgr hsum hin hnd hR2 hpb hp0 HR  kc
      simp only [GL.len] at hRl
      have EA : Hid _ := ea
      rw [ea] at y11
      clear ea
      go_wp2_with fail
      refine Calls.mono CC.out ?_
      rintro e u ⟨he, hpu, hgu⟩
      subst he
      have hsub : L - 1 - s - (1 + kk.cnt + aa.cnt) = L - 1 - (s + (1 + kk.cnt + aa.cnt)) := by omega
      rw [hsub] at hpu
      have FY : Hid (w.grownBy u (some pb) ∧ u.heap[pb]? = some (.cells #[.int .i64 (L - 1 - (s + (1 + kk.cnt + aa.cnt)) : Nat)] 3 (0, 0)) ∧ u.heap[p0]? = some (.cells #[.int .i64 p.k, .int .i64 p.n, .int .i64 p.m, .int .i64 p.c, .slice a1 l1 c1, .int .i64 p.tk, .int .i64 p.tn, .slice a2 l2 c2, .int .i64 p.uk, .int .i64 p.un, .slice a3 l3 c3, .slice a4 l4 c4, .slice a5 l5 c5] 38 (0, 0)) ∧ TlGL (hideP u pb) false a4 (j + 1) l4 R' ∧ (s + (1 + kk.cnt + aa.cnt)) + R'.cnt = kids.cnt) := ⟨grown_trans FX.out.1 hgu, hpu, (hgu.block _ (lt_of_block FX.out.2.1) (by simp; exact FX.out.2.2.2.2)).trans FX.out.2.1, ⟨by omega, .inr ⟨b4, o4, EA.out, FX.out.2.2.1.le (CLe.hideP hgu) (CLe.hideP hgu)⟩⟩, FX.out.2.2.2.1⟩
      clear FX CC hgu hpu y0 y1 y2 y3 y4 y5 y6 y7 y8 y9 y10 y11 y12 k0 k1 k2 k3 k4 k5 k6 k7 k8 k9 k10 k11 k12
      simp only []
      go_wp2
      go_roundw
      case rel => exact ⟨j + 1, s + (1 + kk.cnt + aa.cnt), R', by omega, by go_num, FY⟩
      case measure => simp [intOf]; omega
    · have HE : Hid (w.grownBy wr (some pb) ∧ wr.heap[pb]? = some (.cells #[.int .i64 (L - 1 - kids.cnt : Nat)] 3 (0, 0)) ∧ wr.heap[p0]? = some (.cells #[.int .i64 p.k, .int .i64 p.n, .int .i64 p.m, .int .i64 p.c, .slice a1 l1 c1, .int .i64 p.tk, .int .i64 p.tn, .slice a2 l2 c2, .int .i64 p.uk, .int .i64 p.un, .slice a3 l3 c3, .slice a4 l4 c4, .slice a5 l5 c5] 38 (0, 0))) := by
        obtain ⟨h1, h2, h3, ⟨h4, -⟩, h5⟩ := HR.out
        obtain rfl : R = .nil := GL.nil_of_len (by omega)
        obtain rfl : s = kids.cnt := by simp only [GL.cnt] at h5; omega
        exact ⟨h1, h2, h3⟩
      obtain ⟨⟨y0, y1, y2, y3, y4, y5, y6, y7, y8, y9, y10, y11, y12⟩, -⟩ := blkL HE.out.2.2
      clear HR
      go_wp2
      clear y0 y1 y2 y3 y4 y5 y6 y7 y8 y9 y10 y11 y12
      go_loopw [5] (fun i wr => ∃ (j s : Nat) (R : GL), j ≤ l5 ∧ i = .int .i64 j ∧ Hid (w.grownBy wr (some pb) ∧ wr.heap[pb]? = some (.cells #[.int .i64 (L - 1 - kids.cnt - s : Nat)] 3 (0, 0)) ∧ wr.heap[p0]? = some (.cells #[.int .i64 p.k, .int .i64 p.n, .int .i64 p.m, .int .i64 p.c, .slice a1 l1 c1, .int .i64 p.tk, .int .i64 p.tn, .slice a2 l2 c2, .int .i64 p.uk, .int .i64 p.un, .slice a3 l3 c3, .slice a4 l4 c4, .slice a5 l5 c5] 38 (0, 0)) ∧ TlGL (hideP wr pb) true a5 j l5 R ∧ s + R.cnt = alts.cnt)) (fun i _ => l5 - (intOf i).toNat)
      case atStart => exact ⟨0, 0, alts, Nat.zero_le _, rfl, HE.out.1, HE.out.2.1, HE.out.2.2, H0.out.2 _ HE.out.1, by omega⟩
      case round =>
        clear HE hj hlt
        obtain ⟨j, s, R, hj, rfl, HR⟩ := hrel
        by_cases hlt : j < l5
        · skip
          obtain ⟨hgr, hpb, hp0, ⟨hRl, hR⟩, hsum⟩ := HR.out
          obtain ⟨q', hq'⟩ : ∃ q', R.len = q' + 1 := ⟨R.len - 1, by omega⟩
          rcases hR with rfl | ⟨b4, o4, ea, hin⟩
          · simp [GL.len] at hq'
          obtain ⟨hc, hv, pp, kk, aa, R', rfl, hR'⟩ := GL.cons_of_len hq'
          simp only [wdL] at hin
          obtain ⟨e0, f0, g0, e1, f1, g1, e2, f2, g2, e3, f3, g3, e4, f4, g4, e5, f5, g5, hk, -, kc, hnd, hR2⟩ := hin.alt
          have CC : Hid _ := IH.out pp e1 f1 g1 e2 f2 g2 e3 f3 g3 e4 f4 g4 e5 f5 g5 kk aa (L - 1 - kids.cnt - s) pb wr (by simp only [GL.cnt] at hsum; omega) hpb hnd.2.2.2.1 hnd.2.2.2.2 (by omega)
          obtain ⟨k0, k1, k2, k3, k4, k5, k6, k7, k8, k9, k10, k11, k12⟩ := kc.le CLe.unhideP
          have FX : Hid (w.grownBy wr (some pb) ∧ wr.heap[p0]? = some (.cells #[.int .i64 p.k, .int .i64 p.n, .int .i64 p.m, .int .i64 p.c, .slice a1 l1 c1, .int .i64 p.tk, .int .i64 p.tn, .slice a2 l2 c2, .int .i64 p.uk, .int .i64 p.un, .slice a3 l3 c3, .slice a4 l4 c4, .slice a5 l5 c5] 38 (0, 0)) ∧ InGL (hideP wr pb) (hideP wr pb) true R' b4 (o4 + (j + 1) * 15) ∧ (s + (1 + kk.cnt + aa.cnt)) + R'.cnt = alts.cnt ∧ p0 ≠ pb) := ⟨hgr, hp0, by rw [show o4 + (j + 1) * 15 = o4 + j * 15 + 15 by omega]; exact hR2, by simp only [GL.cnt] at hsum; omega, hne⟩
          obtain ⟨⟨y0, y1, y2, y3, y4, y5, y6, y7, y8, y9, y10, y11, y12⟩, -⟩ := blkL hp0
          clear hgr hsum hin hnd hR2 hpb hp0 HR hk kc
          simp only [GL.len] at hRl
          have EA : Hid _ := ea
          rw [ea] at y12
          clear ea
          go_wp2_with fail
          refine Calls.mono CC.out ?_
          rintro e u ⟨he, hpu, hgu⟩
          subst he
          have hsub : L - 1 - kids.cnt - s - (1 + kk.cnt + aa.cnt) = L - 1 - kids.cnt - (s + (1 + kk.cnt + aa.cnt)) := by omega
          rw [hsub] at hpu
          have FY : Hid (w.grownBy u (some pb) ∧ u.heap[pb]? = some (.cells #[.int .i64 (L - 1 - kids.cnt - (s + (1 + kk.cnt + aa.cnt)) : Nat)] 3 (0, 0)) ∧ u.heap[p0]? = some (.cells #[.int .i64 p.k, .int .i64 p.n, .int .i64 p.m, .int .i64 p.c, .slice a1 l1 c1, .int .i64 p.tk, .int .i64 p.tn, .slice a2 l2 c2, .int .i64 p.uk, .int .i64 p.un, .slice a3 l3 c3, .slice a4 l4 c4, .slice a5 l5 c5] 38 (0, 0)) ∧ TlGL (hideP u pb) true a5 (j + 1) l5 R' ∧ (s + (1 + kk.cnt + aa.cnt)) + R'.cnt = alts.cnt) := ⟨grown_trans FX.out.1 hgu, hpu, (hgu.block _ (lt_of_block FX.out.2.1) (by simp; exact FX.out.2.2.2.2)).trans FX.out.2.1, ⟨by omega, .inr ⟨b4, o4, EA.out, FX.out.2.2.1.le (CLe.hideP hgu) (CLe.hideP hgu)⟩⟩, FX.out.2.2.2.1⟩
          clear FX CC hgu hpu y0 y1 y2 y3 y4 y5 y6 y7 y8 y9 y10 y11 y12 k0 k1 k2 k3 k4 k5 k6 k7 k8 k9 k10 k11 k12
          simp only []
          go_wp2
          go_roundw
          case rel => exact ⟨j + 1, s + (1 + kk.cnt + aa.cnt), R', by omega, by go_num, FY⟩
          case measure => simp [intOf]; omega
        · have HE : Hid (w.grownBy wr (some pb) ∧ wr.heap[pb]? = some (.cells #[.int .i64 (L - (1 + kids.cnt + alts.cnt) : Nat)] 3 (0, 0)) ∧ wr.heap[p0]? = some (.cells #[.int .i64 p.k, .int .i64 p.n, .int .i64 p.m, .int .i64 p.c, .slice a1 l1 c1, .int .i64 p.tk, .int .i64 p.tn, .slice a2 l2 c2, .int .i64 p.uk, .int .i64 p.un, .slice a3 l3 c3, .slice a4 l4 c4, .slice a5 l5 c5] 38 (0, 0))) := by
            obtain ⟨h1, h2, h3, ⟨h4, -⟩, h5⟩ := HR.out
            obtain rfl : R = .nil := GL.nil_of_len (by omega)
            obtain rfl : s = alts.cnt := by simp only [GL.cnt] at h5; omega
            rw [show L - 1 - kids.cnt - alts.cnt = L - (1 + kids.cnt + alts.cnt) by omega] at h2
            exact ⟨h1, h2, h3⟩
          obtain ⟨⟨y0, y1, y2, y3, y4, y5, y6, y7, y8, y9, y10, y11, y12⟩, -⟩ := blkL HE.out.2.2
          clear HR
          go_wp2
          refine bodyPost_end (results_none0 (P := Try.prog) Try.results25 _ _) rfl ?_
          exact ⟨rfl, HE.out.2.1, HE.out.1⟩

theorem lpT (m : Nat) : ∀ (p : PL) (a1 : Option Addr) (l1 c1 : Nat) (a2 : Option Addr) (l2 c2 : Nat) (a3 : Option Addr) (l3 c3 : Nat) (a4 : Option Addr) (l4 c4 : Nat) (a5 : Option Addr) (l5 c5 : Nat) (kids alts : GL) (L pb : Nat) (w : World), kids.cnt + alts.cnt ≤ m → w.heap[pb]? = some (.cells #[.int .i64 (L : Nat)] 3 (0, 0)) → SlGL (hideP w pb) false a4 l4 kids → SlGL (hideP w pb) true a5 l5 alts → L ≤ 1501 →
    Calls Try.prog 25 #[.agg #[.int .i64 p.k, .int .i64 p.n, .int .i64 p.m, .int .i64 p.c, .slice a1 l1 c1, .int .i64 p.tk, .int .i64 p.tn, .slice a2 l2 c2, .int .i64 p.uk, .int .i64 p.un, .slice a3 l3 c3, .slice a4 l4 c4, .slice a5 l5 c5], .pointer (some ⟨pb, 0, none⟩)] w fun e u => e = .returned (.tuple #[]) ∧ u.heap[pb]? = some (.cells #[.int .i64 (L - (1 + kids.cnt + alts.cnt) : Nat)] 3 (0, 0)) ∧ w.grownBy u (some pb) := by
  induction m with
  | zero => exact lpT_of 0 (fun _ _ _ _ _ _ _ _ _ _ _ _ _ _ _ _ _ _ _ _ _ h => absurd h (by omega))
  | succ m ih => exact lpT_of (m + 1) (fun p a1 l1 c1 a2 l2 c2 a3 l3 c3 a4 l4 c4 a5 l5 c5 kids alts L pb w h => ih p a1 l1 c1 a2 l2 c2 a3 l3 c3 a4 l4 c4 a5 l5 c5 kids alts L pb w (by omega))
end Go.Proofs.Ytbeejgacdcncgaa.By
