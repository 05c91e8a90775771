/-
  The program's variables of a tree, by their contracts. No statement is proved here.
-/
import Derived.Test.YtmlganaiajhjeaaTVs
import Derived.Deep.DeepCutAuto
import Derived.Deep.CutBlock
namespace Go.Proofs.Ytmlganaiajhjeaa.By
open Go.RowKit
set_option linter.unusedVariables false
set_option linter.unusedSimpArgs false

set_option maxRecDepth 8000 in
set_option maxHeartbeats 2000000 in
theorem addVarsT (B : Nat) (m : Nat) : ∀ (d : F) (k n : Int) (a : Option Addr) (l c : Nat) (v : Value) (zs : List Int) (W0 w : World), d.size < m → SlF W0 a l d → B = W0.heap.size → Below B W0 w → w.ownsRow B 3 1 v zs.length (valsI zs) → zs.length + (1 + d.size) ≤ 100000 →
    Calls Try.prog 46 #[v, .agg #[.int .i64 k, .int .i64 n, .slice a l c]] w fun e u => ∃ v', e = .returned v' ∧ u.ownsRow B 3 1 v' (zs ++ vT k n d).length (valsI (zs ++ vT k n d)) ∧ FrI B w u := by
  induction m with
  | zero => intro d k n a l c v zs W0 w hm; exact absurd hm (Nat.not_lt_zero _)
  | succ m ih =>
    intro d k n a l c v zs W0 w hm h hW hb ho hlen
    subst hW
    obtain ⟨i0, hi, hz0, hz1, hz2⟩ := info_parts infoV
    have hfl := h.1
    have hl := h.2.1
    have hB := hb.size
    have g0 := World.grownBy_alloc w (.cells #[.int .i64 k, .int .i64 n, .slice a l c] 25) none
    have b0 := heap_alloc_new w (.cells #[.int .i64 k, .int .i64 n, .slice a l c] 25)
    have FX : Hid (FrI W0.heap.size w (w.alloc (.cells #[.int .i64 k, .int .i64 n, .slice a l c] 25)) ∧ (w.alloc (.cells #[.int .i64 k, .int .i64 n, .slice a l c] 25)).heap[w.heap.size]? = some (Obj.cells #[.int .i64 k, .int .i64 n, .slice a l c] 25) ∧ (w.alloc (.cells #[.int .i64 k, .int .i64 n, .slice a l c] 25)).ownsRow W0.heap.size 3 1 v zs.length (valsI zs) ∧ W0.heap.size ≤ (w.alloc (.cells #[.int .i64 k, .int .i64 n, .slice a l c] 25)).heap.size) := ⟨FrI.grown g0 hB, b0, ho.alloc _, Nat.le_trans hB g0.size⟩
    have CS : Hid _ := shpT k (w.alloc (.cells #[.int .i64 k, .int .i64 n, .slice a l c] 25))
    have HS : Hid (SlF W0 a l d ∧ Below W0.heap.size W0 w) := ⟨h, hb⟩
    have IH : Hid _ := ih
    clear ih h hb ho g0 b0
    go_enter Try.func46, Try.ntmps46
    go_wp2_with fail
    refine Calls.mono CS.out ?_
    rintro e w2 ⟨rfl, hg⟩
    have FZ : Hid (FrI W0.heap.size w w2 ∧ w2.heap[w.heap.size]? = some (Obj.cells #[.int .i64 k, .int .i64 n, .slice a l c] 25) ∧ w2.ownsRow W0.heap.size 3 1 v zs.length (valsI zs) ∧ W0.heap.size ≤ w2.heap.size) := ⟨FX.out.1.trans (FrI.grown hg FX.out.2.2.2), (hg.block _ (lt_of_block FX.out.2.1) (by simp)).trans FX.out.2.1, FX.out.2.2.1.kept hg (Classical.em _), Nat.le_trans FX.out.2.2.2 hg.size⟩
    clear hg CS FX
    generalize ep : w.heap.size = q at *
    obtain ⟨⟨x0, x1, x2⟩, -⟩ := three FZ.out.2.1
    simp only []
    by_cases h7 : k = 7
    · subst h7
      have E : shpV 7 = .iface 106 (.agg #[]) := rfl
      rw [E]
      have t1 := asVarVar
      have EV : Hid (zs ++ vT 7 n d = zs ++ [n]) := rfl
      have ga := World.grownBy_alloc w2 (.cells #[.int .i64 n] 3) none
      have S2 : Hid ((w2.alloc (.cells #[.int .i64 n] 3)).ownsRow W0.heap.size 3 1 v zs.length (valsI zs) ∧ ReadsI (w2.alloc (.cells #[.int .i64 n] 3)) (some ⟨w2.heap.size, 0, none⟩) 1 [n] ∧ W0.heap.size ≤ (w2.alloc (.cells #[.int .i64 n] 3)).heap.size ∧ FrI W0.heap.size w (w2.alloc (.cells #[.int .i64 n] 3))) := ⟨FZ.out.2.2.1.alloc _, readsOne w2 n 3, Nat.le_trans FZ.out.2.2.2 ga.size, FZ.out.1.trans (FrI.grown ga FZ.out.2.2.2)⟩
      clear ga E IH HS
      go_wp2_with (at_builtin; go_must (refine wpList_appI rfl (.tmp 13) (.tmp 16) 33 rfl W0.heap.size i0 (.int .i64 0) Try.underlying33 hi hz0 hz1 hz2 rfl v zs.length zs rfl S2.out.1 (some ⟨w2.heap.size, 0, none⟩) 1 1 [n] rfl S2.out.2.1 (by simp) (by omega) S2.out.2.2.1 ?_); intro v3 w3 o3 g3 n3)
      have FF : Hid (w3.ownsRow W0.heap.size 3 1 v3 (zs ++ [n]).length (valsI (zs ++ [n])) ∧ FrI W0.heap.size w w3) := ⟨by simpa using o3, S2.out.2.2.2.trans (FrI.own g3 S2.out.1 S2.out.2.2.1)⟩
      clear o3 g3 n3 S2 FZ
      go_ret
      exact ⟨v3, rfl, by rw [EV.out]; exact FF.out.1, FF.out.2⟩
    · have t1 := notVar h7
      generalize shpV k = sv at *
      have EV : Hid (vT k n d = varsF d) := by show _ = _; unfold vT; rw [if_neg h7]
      rcases HS.out.1.cases with ⟨rfl, rfl⟩ | ⟨b, o, rfl, hin, -, hpos⟩
      · have FF : Hid (zs ++ vT k n .nil = zs) := by show _ = _; rw [EV.out]; simp [varsF]
        clear IH HS
        go_wp2
        refine wp_loop_rounds 1 ?_
        rw [rounds_succ]
        go_wp2
        go_ret
        exact ⟨v, rfl, by rw [FF.out]; exact FZ.out.2.2.1, FZ.out.1⟩
      have IN : Hid (InF W0 d b o) := hin
      have HB : Hid (Below W0.heap.size W0 w) := HS.out.2
      clear hin HS
      go_wp2
      clear x0 x1 x2
      go_loopw [0, 21] (fun v i wr => ∃ (j : Nat) (R : F) (pre : List Int), j ≤ l ∧ i = .int .i64 j ∧ R.len + j = l ∧ R.size ≤ d.size ∧ zs.length + pre.length + R.size ≤ 100000 ∧ Hid (InF W0 R b (o + j * 3)) ∧ Hid (wr.ownsRow W0.heap.size 3 1 v (zs ++ pre).length (valsI (zs ++ pre))) ∧ Hid (pre ++ varsF R = varsF d) ∧ Hid (FrI W0.heap.size w wr ∧ W0.heap.size ≤ wr.heap.size)) (fun _ i _ => l - (intOf i).toNat)
      case atStart => exact ⟨0, d, [], Nat.zero_le _, rfl, by omega, Nat.le_refl _, by simp; omega, by simpa using IN, (by show World.ownsRow _ _ _ _ _ _ _; simpa using FZ.out.2.2.1), rfl, FZ.out.1, FZ.out.2.2.2⟩
      case round =>
        clear FZ IN
        obtain ⟨j, R, pre, hj, rfl, hRl, hRs, hus, hR, hA, hP, hFr⟩ := hrel
        by_cases hlt : j < l
        · obtain ⟨q1, hq1⟩ : ∃ q, R.len = q + 1 := ⟨R.len - 1, by omega⟩
          obtain ⟨kk, nn, d', R', rfl, hR'⟩ := F.cons_of_len hq1
          have hbw := HB.out.trans hFr.out.1.below
          obtain ⟨a', l', c', -, -, -, hd, hR2⟩ := hR.out.out
          obtain ⟨a2, l2, c2, z0, z1, z2, hd2, -⟩ := (hR.out.belowV hbw).out
          have e3 : o + j * 3 + 3 = o + (j + 1) * 3 := by omega
          rw [e3] at hR2
          have hds : d'.size < m := by simp only [F.size] at hRs hm; omega
          have hRs' : R'.size ≤ d.size := by simp only [F.size] at hRs; omega
          have hsz : (F.cons kk nn d' R').size = 1 + d'.size + R'.size := rfl
          rw [hsz] at hus
          obtain ⟨a3, l3, c3, w0', w1', w2', hd3, -⟩ := hR.out.out
          have hlt0 := block_lt_of_cell w2'
          have e5 := (hbw.cell (p := ⟨b, o + j * 3 + 2, none⟩) hlt0).trans w2'
          rw [z2] at e5
          injection e5 with e5
          injection e5 with e6 e7 e8
          subst e6 e7 e8
          have CC : Hid _ := IH.out d' kk nn a2 l2 c2 u0 (zs ++ pre) W0 _ hds hd3 rfl (hbw.alloc hbw.size (.cells #[.int .i64 kk, .int .i64 nn, .slice a2 l2 c2] 25)) (hA.out.alloc _) (by rw [List.length_append]; omega)
          have h2 := vT_len kk nn d'
          have FX : Hid (InF W0 R' b (o + (j + 1) * 3) ∧ zs.length + (pre ++ vT kk nn d').length + R'.size ≤ 100000 ∧ (pre ++ vT kk nn d') ++ varsF R' = varsF d) := ⟨hR2, by rw [List.length_append]; omega, by rw [← hP.out, List.append_assoc]; rfl⟩
          clear hR hR2 hd hd2 hd3 hP hbw w0' w1' w2' IH h2 hsz hus hRs
          go_wp2_with fail
          refine Calls.mono CC.out ?_
          rintro e u ⟨v', rfl, hA2, hF2⟩
          have AC : Hid (u.ownsRow W0.heap.size 3 1 v' (zs ++ (pre ++ vT kk nn d')).length (valsI (zs ++ (pre ++ vT kk nn d')))) := by show World.ownsRow _ _ _ _ _ _ _; rw [← List.append_assoc]; exact hA2
          have ga := World.grownBy_alloc wr (.cells #[.int .i64 kk, .int .i64 nn, .slice a2 l2 c2] 25) none
          have hF3 := (FrI.grown ga hFr.out.2).trans hF2
          have FR : Hid (FrI W0.heap.size w u ∧ W0.heap.size ≤ u.heap.size) := ⟨hFr.out.1.trans hF3, Nat.le_trans hFr.out.2 hF3.below.size⟩
          clear ga hF3 hA2 hF2 CC z0 z1 z2 hFr hA
          simp only []
          go_wp2
          go_roundw
          case rel => exact ⟨j + 1, R', pre ++ vT kk nn d', by omega, by go_num, by omega, hRs', FX.out.2.1, FX.out.1, AC, FX.out.2.2, FR⟩
          case measure => simp [intOf]; omega
        · obtain rfl : j = l := by omega
          obtain rfl : R = .nil := F.nil_of_len (by omega)
          have FIN : Hid (wr.ownsRow W0.heap.size 3 1 u0 (zs ++ vT k n d).length (valsI (zs ++ vT k n d))) := by
            show World.ownsRow _ _ _ _ _ _ _
            have e := hP.out
            simp only [varsF, List.append_nil] at e
            rw [EV.out, ← e]; exact hA.out
          clear hP hA IH
          go_wp2
          go_ret
          exact ⟨_, rfl, FIN.out, hFr.out.1⟩
end Go.Proofs.Ytmlganaiajhjeaa.By
