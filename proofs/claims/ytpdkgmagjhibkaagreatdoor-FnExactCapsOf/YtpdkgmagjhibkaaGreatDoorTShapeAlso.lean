/-
  Several texts in one (TBytes, TShape). No statement is proved here.
-/
import Derived.Test.YtpdkgmagjhibkaaGreatDoorTByAlso
import Derived.Test.YtpdkgmagjhibkaaGreatDoorTEqAlso
import Derived.Deep.DeepCutAuto
import Derived.Deep.CutBlock
import Derived.Deep.RegionHeld
namespace Go.Proofs.YtpdkgmagjhibkaaGreatDoor.By
open Go.RowKit
set_option linter.unusedVariables false
set_option linter.unusedSimpArgs false

/-- A row of bytes that is our own, from block B on, and is there. -/
def Acc (B : Nat) (w : World) (v : Value) (zs : List Int) : Prop := w.ownsRow B 5 1 v zs.length (vals zs) ∧ v ≠ .slice none 0 0
theorem Acc.row {B : Nat} {w : World} {v : Value} {zs : List Int} (h : Acc B w v zs) : ∃ g cap, v = .slice (some ⟨g, 0, none⟩) zs.length cap ∧ B ≤ g ∧ Row w g cap zs ∧ cap ≤ maxLen := by
  obtain ⟨g, cap, e, hB, hr, _, hm⟩ := row_own h.1 h.2
  exact ⟨g, cap, e, hB, hr, hm⟩
theorem Acc.of_row {B g cap : Nat} {w : World} {zs : List Int} (h : Row w g cap zs) (hB : B ≤ g) (hm : cap ≤ maxLen) : Acc B w (.slice (some ⟨g, 0, none⟩) zs.length cap) zs :=
  ⟨own_row h rfl hB hm, by simp⟩
theorem Acc.fr {B : Nat} {w u : World} {v : Value} {zs : List Int} (h : Acc B w v zs) (hg : w.grownBy u none) : Acc B u v zs :=
  ⟨h.1.kept hg (Classical.em _), h.2⟩


set_option maxRecDepth 8000 in
set_option maxHeartbeats 2000000 in
theorem l3bytesT (W0 : World) (m : Nat) : ∀ (d : F) (k n : Int) (a : Option Addr) (l c : Nat) (v : Value) (zs : List Int) (w : World) (p : Nat), d.size < m → SlF W0 a l d → Below W0.heap.size W0 w → w.ownsRow W0.heap.size 5 1 v zs.length (vals zs) → fitsB k n l = true → okF d p = true → zs.length + 11 * (1 + d.size) ≤ 90000000 →
    Calls Tryz.prog 47 #[v, .agg #[.int .i64 k, .int .i64 n, .slice a l c]] w fun e u => ∃ v', e = .returned v' ∧ Acc W0.heap.size u v' (zs ++ tyB k n d) ∧ Fr W0.heap.size w u := by
  induction m with
  | zero => intro d k n a l c v zs w p hm; exact absurd hm (Nat.not_lt_zero _)
  | succ m ih =>
    intro d k n a l c v zs w p hm h hb ho hf hok hlen
    obtain ⟨i0, hi, hz0, hz1, hz2⟩ := info_parts info5
    have hfl := h.1
    have hl := h.2.1
    have hk := fits_range hf
    have hB := hb.size
    -- the box of the tree, then the byte of its kind
    have g0 := World.grownBy_alloc w (.cells #[.int .i64 k, .int .i64 n, .slice a l c] 60) none
    have b0 := heap_alloc_new w (.cells #[.int .i64 k, .int .i64 n, .slice a l c] 60)
    have ho1 := ho.kept g0 (Classical.em _)
    have HO : Hid (World.ownsRow _ W0.heap.size 5 1 v zs.length (vals zs)) := ho1
    have E1 : Hid (zs.length + 1 ≤ maxLen) := by show _ ≤ _; unfold maxLen; omega
    have E2 : Hid ((zs.length + 1) * 1 ≤ 140737488355328) := by show _ ≤ _; omega
    have E3 : ∀ o, Hid (W0.heap.size ≤ ((w.alloc (.cells #[.int .i64 k, .int .i64 n, .slice a l c] 60)).alloc o).heap.size) := by intro o; show _ ≤ _; simp; omega
    have hkw : IntKind.u8.wrap k = k := IntWalk.u8_in k (by omega)
    have HC : Hid (∀ j u, [Value.int .u8 k][j]? = some u → ((w.alloc (.cells #[.int .i64 k, .int .i64 n, .slice a l c] 60)).alloc (.cells #[.int .u8 k] 5)).cell? ((⟨w.heap.size + 1, 0, none⟩ : Addr).add j) = some u) := by
      have e : (w.alloc (.cells #[.int .i64 k, .int .i64 n, .slice a l c] 60)).heap.size = w.heap.size + 1 := by simp
      have hc := cell_one_new (w.alloc (.cells #[.int .i64 k, .int .i64 n, .slice a l c] 60)) (.int .u8 k) 5
      rw [e] at hc
      exact hc
    have IH : Hid _ := ih
    have HS : Hid (SlF W0 a l d ∧ Below W0.heap.size W0 w) := ⟨h, hb⟩
    have FX : Hid (w.grownBy _ none ∧ _ = some (Obj.cells #[.int .i64 k, .int .i64 n, .slice a l c] 60) ∧ W0.heap.size ≤ w.heap.size) := ⟨g0, b0, hB⟩
    have HF : Hid (fitsB k n l = true ∧ okF d p = true ∧ zs.length + 11 * (1 + d.size) ≤ 90000000) := ⟨hf, hok, hlen⟩
    clear ih h hb g0 b0 hB ho ho1 hf hok hlen
    go_enter Tryz.func47, Tryz.ntmps47
    go_upto_region 2 with (at_builtin; go_must (refine wpList_append_own _ rfl (.tmp 6) (.tmp 10) 36 rfl W0.heap.size 5 i0 (.int .u8 0) 1 1 Tryz.underlying36 hi hz0 hz1 hz2 rfl (by decide) v zs.length (vals zs) rfl (HO.out.alloc _) ⟨w.heap.size + 1, 0, none⟩ 1 1 [.int .u8 k] rfl rfl HC.out (by simp [Value.oneCell']) E1.out E2.out (E3 _).out ?_); intro v1 w1 hown1 hgrow1 hnil1)
    have A1 : Hid (Acc W0.heap.size w1 v1 (zs ++ [k])) := by
      refine And.intro ?_ (fun e => by have := (hnil1.1 e).2; omega)
      have e := own_step hown1
      simpa using e
    have FY : Hid (Fr W0.heap.size w w1 ∧ w1.heap[w.heap.size]? = some (Obj.cells #[.int .i64 k, .int .i64 n, .slice a l c] 60)) := by
      obtain ⟨g0, b0, hB⟩ := FX.out
      have ga := World.grownBy_alloc (w.alloc (.cells #[.int .i64 k, .int .i64 n, .slice a l c] 60)) (.cells #[.int .u8 k] 5) none
      have f1 := Fr.own hgrow1 (HO.out.alloc _) (E3 _).out
      exact ⟨(Fr.grown (grown_trans g0 ga) hB).trans f1, f1.three ((ga.block _ (lt_of_block b0) (by simp)).trans b0) (by decide)⟩
    clear hown1 hgrow1 hnil1 HC HO E1 E2 E3 hi hz0 hz1 hz2
    have hB : W0.heap.size ≤ w.heap.size := FX.out.2.2
    clear FX
    generalize ep : w.heap.size = q at *
    obtain ⟨⟨x0, x1, x2⟩, -⟩ := three FY.out.2
    obtain ⟨gr, cap, hv1, hgB, hrow, hcm⟩ := A1.out.row
    have e11 : (zs ++ [k]).length = zs.length + 1 := by simp
    rw [e11] at hv1
    subst hv1
    have hlen := HF.out.2.2
    generalize hN1 : zs.length + 1 = N1 at *
    have E11 : Hid ((zs ++ [k]).length = N1 ∧ zs.length + 1 = N1) := ⟨e11, hN1⟩
    clear e11 hN1
    by_cases h6 : k = 6
    · have CC : Hid _ := specPutM gr N1 cap (zs ++ [k]) n w1 hrow E11.out.1 (by have := E11.out.2; omega)
      have hl5 := numB_len n
      have hL5 : Hid ((numB n).length ≤ 5 ∧ N1 ≤ 90000000) := ⟨hl5, by have := E11.out.2; omega⟩
      subst h6
      clear hrow hl5 hlen
      go_wp2_with fail
      refine Calls.mono CC.out ?_
      rintro e u ⟨g, cp, rfl, hg, hgs, hr, hcp⟩
      have FZ : Hid (Fr W0.heap.size w u ∧ u.heap[q]? = some (Obj.cells #[.int .i64 6, .int .i64 n, .slice a l c] 60)) := ⟨FY.out.1.trans (Fr.grown hg (by have := FY.out.1.below.size; omega)), (hg.block _ (lt_of_block FY.out.2) (by simp)).trans FY.out.2⟩
      have C2 : Hid _ := specPutM g _ cp (zs ++ [6] ++ numB n) (l : Int) u hr (by rw [List.length_append, E11.out.1]) (by have := hL5.out; omega)
      obtain ⟨⟨y0, y1, y2⟩, -⟩ := three FZ.out.2
      have hgs' : W0.heap.size ≤ u.heap.size := by have := hg.size; have := FY.out.1.below.size; omega
      clear hg hgs hr hcp CC x0 x1 x2 A1 FY
      simp only []
      go_wp2_with fail
      refine Calls.mono C2.out ?_
      rintro e u2 ⟨g2, cp2, rfl, hg, hgs, hr, hcp⟩
      have AL : Hid (Acc W0.heap.size u2 (.slice (some ⟨g2, 0, none⟩) (N1 + (numB n).length + (numB (l : Int)).length) cp2) (zs ++ headB 6 n l)) := by
        show Acc _ _ _ _
        have e : zs ++ headB 6 n l = zs ++ [6] ++ numB n ++ numB (l : Int) := by simp [headB]
        have := Acc.of_row (B := W0.heap.size) hr (by omega) hcp
        rw [e]
        have e2 : (zs ++ [6] ++ numB n ++ numB (l : Int)).length = N1 + (numB n).length + (numB (l : Int)).length := by rw [List.length_append, List.length_append, E11.out.1]
        rw [e2] at this
        exact this
      have FL : Hid (Fr W0.heap.size w u2 ∧ u2.heap[q]? = some (Obj.cells #[.int .i64 6, .int .i64 n, .slice a l c] 60)) := ⟨FZ.out.1.trans (Fr.grown hg hgs'), (hg.block _ (lt_of_block FZ.out.2) (by simp)).trans FZ.out.2⟩
      clear hg hgs hr hcp C2 y0 y1 y2 FZ hgs'
      simp only []
      generalize Value.slice (some ⟨g2, 0, none⟩) (N1 + (numB n).length + (numB (l : Int)).length) cp2 = vl at *
      clear hL5 E11
      rcases HS.out.1.cases with ⟨rfl, rfl⟩ | ⟨b, o, rfl, hin, -, hpos⟩
      · obtain ⟨⟨y0, y1, y2⟩, -⟩ := three FL.out.2
        have FIN : Hid (Acc W0.heap.size u2 vl (zs ++ tyB 6 n .nil)) := by
          show Acc _ _ _ _
          have e : zs ++ tyB 6 n .nil = zs ++ headB 6 n 0 := by simp [tyB, bytesF, F.len]
          rw [e]; exact AL.out
        clear IH AL
        go_wp2
        refine wp_loop_rounds 1 ?_
        rw [rounds_succ]
        go_wp2
        go_ret
        exact ⟨_, rfl, FIN.out, FL.out.1⟩
      have IN : Hid (InF W0 d b o) := hin
      have HB : Hid (Below W0.heap.size W0 w) := HS.out.2
      have PR : Hid (headB 6 n l ++ bytesF d = tyB 6 n d) := by show _ = _; rw [tyB, hfl]
      have hhl : (headB 6 n l).length ≤ 11 := headB_len _ _ _
      have hokd : okF d p = true := HF.out.2.1
      have hlen2 : zs.length + 11 * (1 + d.size) ≤ 90000000 := HF.out.2.2
      clear hin HS
      have Q0 := three FL.out.2
      obtain ⟨⟨y0, y1, y2⟩, -⟩ := Q0
      go_wp2
      clear y0 y1 y2
      go_loopw [0, 5] (fun v i wr => ∃ (j : Nat) (R : F) (pre : List Int), j ≤ l ∧ i = .int .i64 j ∧ R.len + j = l ∧ R.size ≤ d.size ∧ Hid (InF W0 R b (o + j * 3)) ∧ Hid (Acc W0.heap.size wr v (zs ++ pre)) ∧ Hid (pre ++ bytesF R = tyB 6 n d) ∧ Hid (Fr W0.heap.size w wr ∧ wr.heap[q]? = some (Obj.cells #[.int .i64 6, .int .i64 n, .slice (some ⟨b, o, none⟩) l c] 60)) ∧ Hid (zs.length + pre.length + 11 * R.size ≤ 90000000) ∧ Hid (okF R p = true)) (fun _ i _ => l - (intOf i).toNat)
      case atStart => exact ⟨0, d, headB 6 n l, Nat.zero_le _, rfl, by omega, Nat.le_refl _, by simpa using IN, AL, PR, FL, by show _ ≤ _; omega, hokd⟩
      case round =>
        clear AL FL
        obtain ⟨j, R, pre, hj, rfl, hRl, hRs, hR, hA, hP, hFr, hN, hokR⟩ := hrel
        obtain ⟨⟨y0, y1, y2⟩, -⟩ := three hFr.out.2
        by_cases hlt : j < l
        · obtain ⟨q1, hq1⟩ : ∃ q, R.len = q + 1 := ⟨R.len - 1, by omega⟩
          obtain ⟨kk, nn, d', R', rfl, hR'⟩ := F.cons_of_len hq1
          have hbw := HB.out.trans hFr.out.1.below
          obtain ⟨a', l', c', -, -, -, hd, hR2⟩ := hR.out.out
          obtain ⟨a2, l2, c2, z0, z1, z2, hd2, -⟩ := (hR.out.below hbw).out
          have hokc := hokR.out
          simp only [okF, Bool.and_eq_true, decide_eq_true_eq] at hokc
          have e3 : o + j * 3 + 3 = o + (j + 1) * 3 := by omega
          rw [e3] at hR2
          have hds : d'.size < m := by simp only [F.size] at hRs hm; omega
          have hRs' : R'.size ≤ d.size := by simp only [F.size] at hRs; omega
          have hNN := hN.out
          simp only [F.size] at hNN
          obtain ⟨a3, l3, c3, w0', w1', w2', hd3, -⟩ := hR.out.out
          have hlt0 := block_lt_of_cell w2'
          have e5 := (hbw.cell (p := ⟨b, o + j * 3 + 2, none⟩) hlt0).trans w2'
          rw [z2] at e5
          injection e5 with e5
          injection e5 with e6 e7 e8
          subst e6 e7 e8
          have CC : Hid _ := IH.out d' kk nn a2 l2 c2 u0 (zs ++ pre) wr (p - 1) hds hd3 hbw (by have := hA.out.1; exact this) (by rw [← hd3.1]; exact hokc.1.1.2) hokc.1.2 (by rw [List.length_append]; omega)
          have FX : Hid (InF W0 R' b (o + (j + 1) * 3) ∧ okF R' p = true ∧ zs.length + (pre ++ tyB kk nn d').length + 11 * R'.size ≤ 90000000 ∧ (pre ++ tyB kk nn d') ++ bytesF R' = tyB 6 n d) := by
            refine ⟨hR2, hokc.2, ?_, ?_⟩
            · have h1 := headB_len kk nn d'.len
              have h2 := bytesF_len d'
              rw [List.length_append, tyB, List.length_append]; omega
            · rw [← hP.out, bytesF, tyB]; simp only [List.append_assoc]
          clear hR hR2 hd hd2 hd3 hP hbw hokc w0' w1' w2' hN hNN hokR IN IH PR hhl hokd hlen2
          go_wp2_with fail
          refine Calls.mono CC.out ?_
          rintro e u ⟨v', rfl, hA2, hF2⟩
          have AC : Hid (Acc W0.heap.size u v' (zs ++ (pre ++ tyB kk nn d'))) := by show Acc _ _ _ _; rw [← List.append_assoc]; exact hA2
          have FR : Hid (Fr W0.heap.size w u ∧ u.heap[q]? = some (Obj.cells #[.int .i64 6, .int .i64 n, .slice (some ⟨b, o, none⟩) l c] 60)) := ⟨hFr.out.1.trans hF2, hF2.three hFr.out.2 (by decide)⟩
          clear hA2 hF2 CC z0 z1 z2 y0 y1 y2 hFr hA
          simp only []
          go_wp2
          go_roundw
          case rel => exact ⟨j + 1, R', pre ++ tyB kk nn d', by omega, by go_num, by omega, hRs', FX.out.1, AC, FX.out.2.2.2, FR, FX.out.2.2.1, FX.out.2.1⟩
          case measure => simp [intOf]; omega
        · obtain rfl : j = l := by omega
          obtain rfl : R = .nil := F.nil_of_len (by omega)
          have FIN : Hid (Acc W0.heap.size wr u0 (zs ++ tyB 6 n d)) := by
            show Acc _ _ _ _
            have e := hP.out
            simp only [bytesF, List.append_nil] at e
            rw [← e]; exact hA.out
          clear hP hA
          go_wp2
          go_ret
          exact ⟨_, rfl, FIN.out, hFr.out.1⟩
    by_cases h7 : k = 7
    · have CC : Hid _ := specPutM gr N1 cap (zs ++ [k]) n w1 hrow E11.out.1 (by have := E11.out.2; omega)
      subst h7
      clear hrow hlen
      go_wp2_with fail
      refine Calls.mono CC.out ?_
      rintro e u ⟨g, cp, rfl, hg, hgs, hr, hcp⟩
      have AL : Hid (Acc W0.heap.size u (.slice (some ⟨g, 0, none⟩) (N1 + (numB n).length) cp) (zs ++ headB 7 n l)) := by
        show Acc _ _ _ _
        have e : zs ++ headB 7 n l = zs ++ [7] ++ numB n := by simp [headB]
        have := Acc.of_row (B := W0.heap.size) hr (by have := FY.out.1.below.size; omega) hcp
        rw [e]
        have e2 : (zs ++ [7] ++ numB n).length = N1 + (numB n).length := by rw [List.length_append, E11.out.1]
        rw [e2] at this
        exact this
      have FL : Hid (Fr W0.heap.size w u ∧ u.heap[q]? = some (Obj.cells #[.int .i64 7, .int .i64 n, .slice a l c] 60)) := ⟨FY.out.1.trans (Fr.grown hg (by have := FY.out.1.below.size; omega)), (hg.block _ (lt_of_block FY.out.2) (by simp)).trans FY.out.2⟩
      clear hg hgs hr hcp CC x0 x1 x2 A1 FY
      obtain ⟨⟨x0, x1, x2⟩, -⟩ := three FL.out.2
      generalize Value.slice (some ⟨g, 0, none⟩) (N1 + (numB n).length) cp = vl at *
      clear E11
      simp only []
      rcases HS.out.1.cases with ⟨rfl, rfl⟩ | ⟨b, o, rfl, hin, -, hpos⟩
      · obtain ⟨⟨y0, y1, y2⟩, -⟩ := three FL.out.2
        have FIN : Hid (Acc W0.heap.size u vl (zs ++ tyB 7 n .nil)) := by
          show Acc _ _ _ _
          have e : zs ++ tyB 7 n .nil = zs ++ headB 7 n 0 := by simp [tyB, bytesF, F.len]
          rw [e]; exact AL.out
        clear IH AL
        go_wp2
        refine wp_loop_rounds 1 ?_
        rw [rounds_succ]
        go_wp2
        go_ret
        exact ⟨_, rfl, FIN.out, FL.out.1⟩
      have IN : Hid (InF W0 d b o) := hin
      have HB : Hid (Below W0.heap.size W0 w) := HS.out.2
      have PR : Hid (headB 7 n l ++ bytesF d = tyB 7 n d) := by show _ = _; rw [tyB, hfl]
      have hhl : (headB 7 n l).length ≤ 11 := headB_len _ _ _
      have hokd : okF d p = true := HF.out.2.1
      have hlen2 : zs.length + 11 * (1 + d.size) ≤ 90000000 := HF.out.2.2
      clear hin HS
      have Q0 := three FL.out.2
      obtain ⟨⟨y0, y1, y2⟩, -⟩ := Q0
      go_wp2
      clear y0 y1 y2
      go_loopw [0, 5] (fun v i wr => ∃ (j : Nat) (R : F) (pre : List Int), j ≤ l ∧ i = .int .i64 j ∧ R.len + j = l ∧ R.size ≤ d.size ∧ Hid (InF W0 R b (o + j * 3)) ∧ Hid (Acc W0.heap.size wr v (zs ++ pre)) ∧ Hid (pre ++ bytesF R = tyB 7 n d) ∧ Hid (Fr W0.heap.size w wr ∧ wr.heap[q]? = some (Obj.cells #[.int .i64 7, .int .i64 n, .slice (some ⟨b, o, none⟩) l c] 60)) ∧ Hid (zs.length + pre.length + 11 * R.size ≤ 90000000) ∧ Hid (okF R p = true)) (fun _ i _ => l - (intOf i).toNat)
      case atStart => exact ⟨0, d, headB 7 n l, Nat.zero_le _, rfl, by omega, Nat.le_refl _, by simpa using IN, AL, PR, FL, by show _ ≤ _; omega, hokd⟩
      case round =>
        clear AL FL
        obtain ⟨j, R, pre, hj, rfl, hRl, hRs, hR, hA, hP, hFr, hN, hokR⟩ := hrel
        obtain ⟨⟨y0, y1, y2⟩, -⟩ := three hFr.out.2
        by_cases hlt : j < l
        · obtain ⟨q1, hq1⟩ : ∃ q, R.len = q + 1 := ⟨R.len - 1, by omega⟩
          obtain ⟨kk, nn, d', R', rfl, hR'⟩ := F.cons_of_len hq1
          have hbw := HB.out.trans hFr.out.1.below
          obtain ⟨a', l', c', -, -, -, hd, hR2⟩ := hR.out.out
          obtain ⟨a2, l2, c2, z0, z1, z2, hd2, -⟩ := (hR.out.below hbw).out
          have hokc := hokR.out
          simp only [okF, Bool.and_eq_true, decide_eq_true_eq] at hokc
          have e3 : o + j * 3 + 3 = o + (j + 1) * 3 := by omega
          rw [e3] at hR2
          have hds : d'.size < m := by simp only [F.size] at hRs hm; omega
          have hRs' : R'.size ≤ d.size := by simp only [F.size] at hRs; omega
          have hNN := hN.out
          simp only [F.size] at hNN
          obtain ⟨a3, l3, c3, w0', w1', w2', hd3, -⟩ := hR.out.out
          have hlt0 := block_lt_of_cell w2'
          have e5 := (hbw.cell (p := ⟨b, o + j * 3 + 2, none⟩) hlt0).trans w2'
          rw [z2] at e5
          injection e5 with e5
          injection e5 with e6 e7 e8
          subst e6 e7 e8
          have CC : Hid _ := IH.out d' kk nn a2 l2 c2 u0 (zs ++ pre) wr (p - 1) hds hd3 hbw (by have := hA.out.1; exact this) (by rw [← hd3.1]; exact hokc.1.1.2) hokc.1.2 (by rw [List.length_append]; omega)
          have FX : Hid (InF W0 R' b (o + (j + 1) * 3) ∧ okF R' p = true ∧ zs.length + (pre ++ tyB kk nn d').length + 11 * R'.size ≤ 90000000 ∧ (pre ++ tyB kk nn d') ++ bytesF R' = tyB 7 n d) := by
            refine ⟨hR2, hokc.2, ?_, ?_⟩
            · have h1 := headB_len kk nn d'.len
              have h2 := bytesF_len d'
              rw [List.length_append, tyB, List.length_append]; omega
            · rw [← hP.out, bytesF, tyB]; simp only [List.append_assoc]
          clear hR hR2 hd hd2 hd3 hP hbw hokc w0' w1' w2' hN hNN hokR IN IH PR hhl hokd hlen2
          go_wp2_with fail
          refine Calls.mono CC.out ?_
          rintro e u ⟨v', rfl, hA2, hF2⟩
          have AC : Hid (Acc W0.heap.size u v' (zs ++ (pre ++ tyB kk nn d'))) := by show Acc _ _ _ _; rw [← List.append_assoc]; exact hA2
          have FR : Hid (Fr W0.heap.size w u ∧ u.heap[q]? = some (Obj.cells #[.int .i64 7, .int .i64 n, .slice (some ⟨b, o, none⟩) l c] 60)) := ⟨hFr.out.1.trans hF2, hF2.three hFr.out.2 (by decide)⟩
          clear hA2 hF2 CC z0 z1 z2 y0 y1 y2 hFr hA
          simp only []
          go_wp2
          go_roundw
          case rel => exact ⟨j + 1, R', pre ++ tyB kk nn d', by omega, by go_num, by omega, hRs', FX.out.1, AC, FX.out.2.2.2, FR, FX.out.2.2.1, FX.out.2.1⟩
          case measure => simp [intOf]; omega
        · obtain rfl : j = l := by omega
          obtain rfl : R = .nil := F.nil_of_len (by omega)
          have FIN : Hid (Acc W0.heap.size wr u0 (zs ++ tyB 7 n d)) := by
            show Acc _ _ _ _
            have e := hP.out
            simp only [bytesF, List.append_nil] at e
            rw [← e]; exact hA.out
          clear hP hA
          go_wp2
          go_ret
          exact ⟨_, rfl, FIN.out, hFr.out.1⟩
    have AL : Hid (Acc W0.heap.size w1 (.slice (some ⟨gr, 0, none⟩) N1 cap) (zs ++ headB k n l)) := by
      show Acc _ _ _ _
      have e : headB k n l = [k] := by simp [headB, h6, h7]
      rw [e]; exact A1.out
    have FL := FY
    generalize Value.slice (some ⟨gr, 0, none⟩) N1 cap = vl at *
    have hb6 : (k == (6 : Int)) = false := by simp [h6]
    have hb7 : (k == (7 : Int)) = false := by simp [h7]
    clear A1 FY E11 hrow hlen h6 h7
    rcases HS.out.1.cases with ⟨rfl, rfl⟩ | ⟨b, o, rfl, hin, -, hpos⟩
    · obtain ⟨⟨y0, y1, y2⟩, -⟩ := three FL.out.2
      have FIN : Hid (Acc W0.heap.size w1 vl (zs ++ tyB k n .nil)) := by
        show Acc _ _ _ _
        have e : zs ++ tyB k n .nil = zs ++ headB k n 0 := by simp [tyB, bytesF, F.len]
        rw [e]; exact AL.out
      clear IH AL
      go_wp2
      refine wp_loop_rounds 1 ?_
      rw [rounds_succ]
      go_wp2
      go_ret
      exact ⟨_, rfl, FIN.out, FL.out.1⟩
    have IN : Hid (InF W0 d b o) := hin
    have HB : Hid (Below W0.heap.size W0 w) := HS.out.2
    have PR : Hid (headB k n l ++ bytesF d = tyB k n d) := by show _ = _; rw [tyB, hfl]
    have hhl : (headB k n l).length ≤ 11 := headB_len _ _ _
    have hokd : okF d p = true := HF.out.2.1
    have hlen2 : zs.length + 11 * (1 + d.size) ≤ 90000000 := HF.out.2.2
    clear hin HS
    have Q0 := three FL.out.2
    obtain ⟨⟨y0, y1, y2⟩, -⟩ := Q0
    go_wp2
    clear y0 y1 y2
    go_loopw [0, 5] (fun v i wr => ∃ (j : Nat) (R : F) (pre : List Int), j ≤ l ∧ i = .int .i64 j ∧ R.len + j = l ∧ R.size ≤ d.size ∧ Hid (InF W0 R b (o + j * 3)) ∧ Hid (Acc W0.heap.size wr v (zs ++ pre)) ∧ Hid (pre ++ bytesF R = tyB k n d) ∧ Hid (Fr W0.heap.size w wr ∧ wr.heap[q]? = some (Obj.cells #[.int .i64 k, .int .i64 n, .slice (some ⟨b, o, none⟩) l c] 60)) ∧ Hid (zs.length + pre.length + 11 * R.size ≤ 90000000) ∧ Hid (okF R p = true)) (fun _ i _ => l - (intOf i).toNat)
    case atStart => exact ⟨0, d, headB k n l, Nat.zero_le _, rfl, by omega, Nat.le_refl _, by simpa using IN, AL, PR, FL, by show _ ≤ _; omega, hokd⟩
    case round =>
      clear AL FL
      obtain ⟨j, R, pre, hj, rfl, hRl, hRs, hR, hA, hP, hFr, hN, hokR⟩ := hrel
      obtain ⟨⟨y0, y1, y2⟩, -⟩ := three hFr.out.2
      by_cases hlt : j < l
      · obtain ⟨q1, hq1⟩ : ∃ q, R.len = q + 1 := ⟨R.len - 1, by omega⟩
        obtain ⟨kk, nn, d', R', rfl, hR'⟩ := F.cons_of_len hq1
        have hbw := HB.out.trans hFr.out.1.below
        obtain ⟨a', l', c', -, -, -, hd, hR2⟩ := hR.out.out
        obtain ⟨a2, l2, c2, z0, z1, z2, hd2, -⟩ := (hR.out.below hbw).out
        have hokc := hokR.out
        simp only [okF, Bool.and_eq_true, decide_eq_true_eq] at hokc
        have e3 : o + j * 3 + 3 = o + (j + 1) * 3 := by omega
        rw [e3] at hR2
        have hds : d'.size < m := by simp only [F.size] at hRs hm; omega
        have hRs' : R'.size ≤ d.size := by simp only [F.size] at hRs; omega
        have hNN := hN.out
        simp only [F.size] at hNN
        obtain ⟨a3, l3, c3, w0', w1', w2', hd3, -⟩ := hR.out.out
        have hlt0 := block_lt_of_cell w2'
        have e5 := (hbw.cell (p := ⟨b, o + j * 3 + 2, none⟩) hlt0).trans w2'
        rw [z2] at e5
        injection e5 with e5
        injection e5 with e6 e7 e8
        subst e6 e7 e8
        have CC : Hid _ := IH.out d' kk nn a2 l2 c2 u0 (zs ++ pre) wr (p - 1) hds hd3 hbw (by have := hA.out.1; exact this) (by rw [← hd3.1]; exact hokc.1.1.2) hokc.1.2 (by rw [List.length_append]; omega)
        have FX : Hid (InF W0 R' b (o + (j + 1) * 3) ∧ okF R' p = true ∧ zs.length + (pre ++ tyB kk nn d').length + 11 * R'.size ≤ 90000000 ∧ (pre ++ tyB kk nn d') ++ bytesF R' = tyB k n d) := by
          refine ⟨hR2, hokc.2, ?_, ?_⟩
          · have h1 := headB_len kk nn d'.len
            have h2 := bytesF_len d'
            rw [List.length_append, tyB, List.length_append]; omega
          · rw [← hP.out, bytesF, tyB]; simp only [List.append_assoc]
        clear hR hR2 hd hd2 hd3 hP hbw hokc w0' w1' w2' hN hNN hokR IN IH PR hhl hokd hlen2
        go_wp2_with fail
        refine Calls.mono CC.out ?_
        rintro e u ⟨v', rfl, hA2, hF2⟩
        have AC : Hid (Acc W0.heap.size u v' (zs ++ (pre ++ tyB kk nn d'))) := by show Acc _ _ _ _; rw [← List.append_assoc]; exact hA2
        have FR : Hid (Fr W0.heap.size w u ∧ u.heap[q]? = some (Obj.cells #[.int .i64 k, .int .i64 n, .slice (some ⟨b, o, none⟩) l c] 60)) := ⟨hFr.out.1.trans hF2, hF2.three hFr.out.2 (by decide)⟩
        clear hA2 hF2 CC z0 z1 z2 y0 y1 y2 hFr hA
        simp only []
        go_wp2
        go_roundw
        case rel => exact ⟨j + 1, R', pre ++ tyB kk nn d', by omega, by go_num, by omega, hRs', FX.out.1, AC, FX.out.2.2.2, FR, FX.out.2.2.1, FX.out.2.1⟩
        case measure => simp [intOf]; omega
      · obtain rfl : j = l := by omega
        obtain rfl : R = .nil := F.nil_of_len (by omega)
        have FIN : Hid (Acc W0.heap.size wr u0 (zs ++ tyB k n d)) := by
          show Acc _ _ _ _
          have e := hP.out
          simp only [bytesF, List.append_nil] at e
          rw [← e]; exact hA.out
        clear hP hA
        go_wp2
        go_ret
        exact ⟨_, rfl, FIN.out, hFr.out.1⟩
end Go.Proofs.YtpdkgmagjhibkaaGreatDoor.By

namespace Go.Proofs.YtpdkgmagjhibkaaGreatDoor.By
open Go.RowKit
set_option linter.unusedVariables false
set_option linter.unusedSimpArgs false

/-- What the table has for the kinds below 6. -/
def fixV (k : Int) : Value :=
  if k = 1 then .agg #[.string ⟨#[105, 110, 116]⟩, .int .i64 0, .bool false]
  else if k = 2 then .agg #[.string ⟨#[116, 101, 120, 116]⟩, .int .i64 0, .bool true]
  else if k = 3 then .agg #[.string ⟨#[112, 97, 105, 114]⟩, .int .i64 2, .bool true]
  else if k = 4 then .agg #[.string ⟨#[102, 117, 110]⟩, .int .i64 2, .bool true]
  else if k = 5 then .agg #[.string ⟨#[114, 101, 102]⟩, .int .i64 1, .bool true]
  else .agg #[.string ⟨#[117, 110, 105, 116]⟩, .int .i64 0, .bool false]
/-- The shape of a kind. -/
def shpV (k : Int) : Value :=
  if k = 6 then .iface 176 (.agg #[])
  else if k = 7 then .iface 175 (.agg #[])
  else if k < 0 ∨ 7 < k then .iface 186 (.agg #[])
  else .iface 188 (fixV k)

theorem fixT (k : Int) (h0 : 0 ≤ k) (h1 : k ≤ 5) (w : World) :
    Calls Tryz.prog 145 #[.int .i64 k] w fun e u => e = .returned (fixV k) ∧ w.grownBy u none := by
  have hk : k = 0 ∨ k = 1 ∨ k = 2 ∨ k = 3 ∨ k = 4 ∨ k = 5 := by omega
  clear h0 h1
  rcases hk with rfl | rfl | rfl | rfl | rfl | rfl
  all_goals (go_enter Tryz.func145, Tryz.ntmps145; go_wp2; go_returns; exact ⟨rfl, World.grownBy_alloc _ _ _⟩)

set_option maxHeartbeats 400000 in
theorem shpT (k : Int) (w : World) :
    Calls Tryz.prog 136 #[.int .i64 k] w fun e u => e = .returned (shpV k) ∧ w.grownBy u none := by
  by_cases h6 : k = 6
  · subst h6
    go_enter Tryz.func136, Tryz.ntmps136
    go_wp2
    go_ret
    exact ⟨rfl, World.grownBy.refl _ _⟩
  by_cases h7 : k = 7
  · subst h7
    go_enter Tryz.func136, Tryz.ntmps136
    go_wp2
    go_ret
    exact ⟨rfl, World.grownBy.refl _ _⟩
  by_cases hx : k < 0
  · have E : Hid (shpV k = .iface 186 (.agg #[])) := by show shpV k = _; unfold shpV; rw [if_neg h6, if_neg h7, if_pos (.inl hx)]
    go_enter Tryz.func136, Tryz.ntmps136
    go_wp2
    go_ret
    exact ⟨by rw [E.out]; rfl, World.grownBy.refl _ _⟩
  by_cases hy : 7 < k
  · have E : Hid (shpV k = .iface 186 (.agg #[])) := by show shpV k = _; unfold shpV; rw [if_neg h6, if_neg h7, if_pos (.inr hy)]
    go_enter Tryz.func136, Tryz.ntmps136
    go_wp2
    go_ret
    exact ⟨by rw [E.out]; rfl, World.grownBy.refl _ _⟩
  have E : Hid (shpV k = .iface 188 (fixV k)) := by show shpV k = _; unfold shpV; rw [if_neg h6, if_neg h7, if_neg (by omega)]
  have CC : Hid _ := fixT k (by omega) (by omega) w
  go_enter Tryz.func136, Tryz.ntmps136
  go_wp2_with fail
  refine Calls.mono CC.out ?_
  rintro e u ⟨rfl, hg⟩
  have G : Hid (w.grownBy u none) := hg
  clear hg CC
  simp only []
  go_wp2
  go_ret
  exact ⟨by rw [E.out]; rfl, G.out⟩

theorem asVarVar (w : World) : Sem.run Tryz.prog (Instr.typeAssert (.iface 175 (.agg #[])) 172 175 true) w = .ok (.tuple #[.agg #[], .bool true]) w := by kernel_rfl
theorem asVarData (w : World) : Sem.run Tryz.prog (Instr.typeAssert (.iface 176 (.agg #[])) 172 175 true) w = .ok (.tuple #[.agg #[], .bool false]) w := by kernel_rfl
theorem asVarFix (v : Value) (w : World) : Sem.run Tryz.prog (Instr.typeAssert (.iface 188 v) 172 175 true) w = .ok (.tuple #[.agg #[], .bool false]) w := by kernel_rfl
theorem asVarNo (w : World) : Sem.run Tryz.prog (Instr.typeAssert (.iface 186 (.agg #[])) 172 175 true) w = .ok (.tuple #[.agg #[], .bool false]) w := by kernel_rfl
theorem asDataVar (w : World) : Sem.run Tryz.prog (Instr.typeAssert (.iface 175 (.agg #[])) 172 176 true) w = .ok (.tuple #[.agg #[], .bool false]) w := by kernel_rfl
theorem asDataData (w : World) : Sem.run Tryz.prog (Instr.typeAssert (.iface 176 (.agg #[])) 172 176 true) w = .ok (.tuple #[.agg #[], .bool true]) w := by kernel_rfl
theorem asDataFix (v : Value) (w : World) : Sem.run Tryz.prog (Instr.typeAssert (.iface 188 v) 172 176 true) w = .ok (.tuple #[.agg #[], .bool false]) w := by kernel_rfl
theorem asDataNo (w : World) : Sem.run Tryz.prog (Instr.typeAssert (.iface 186 (.agg #[])) 172 176 true) w = .ok (.tuple #[.agg #[], .bool false]) w := by kernel_rfl
theorem asFixFix (v : Value) (w : World) : Sem.run Tryz.prog (Instr.typeAssert (.iface 188 v) 172 188 true) w = .ok (.tuple #[v, .bool true]) w := by kernel_rfl
theorem asFixVar (w : World) : Sem.run Tryz.prog (Instr.typeAssert (.iface 175 (.agg #[])) 172 188 true) w = .ok (.tuple #[.agg #[.string ⟨#[]⟩, .int .i64 0, .bool false], .bool false]) w := by kernel_rfl
theorem asFixData (w : World) : Sem.run Tryz.prog (Instr.typeAssert (.iface 176 (.agg #[])) 172 188 true) w = .ok (.tuple #[.agg #[.string ⟨#[]⟩, .int .i64 0, .bool false], .bool false]) w := by kernel_rfl
theorem asFixNo (w : World) : Sem.run Tryz.prog (Instr.typeAssert (.iface 186 (.agg #[])) 172 188 true) w = .ok (.tuple #[.agg #[.string ⟨#[]⟩, .int .i64 0, .bool false], .bool false]) w := by kernel_rfl
theorem methVar (w : World) : Sem.run Tryz.prog (method 313 175 (.agg #[]) "loop.example/g00293/impl.fits") w = .ok (166, .agg #[]) w := by kernel_rfl
theorem methData (w : World) : Sem.run Tryz.prog (method 313 176 (.agg #[]) "loop.example/g00293/impl.fits") w = .ok (168, .agg #[]) w := by kernel_rfl
theorem methNo (w : World) : Sem.run Tryz.prog (method 313 186 (.agg #[]) "loop.example/g00293/impl.fits") w = .ok (170, .agg #[]) w := by kernel_rfl
theorem methFix (v : Value) (w : World) : Sem.run Tryz.prog (method 313 188 v "loop.example/g00293/impl.fits") w = .ok (172, v) w := by kernel_rfl

set_option maxHeartbeats 400000 in
theorem varFits (n : Int) (l : Nat) (w : World) :
    Calls Tryz.prog 166 #[.agg #[], .int .i64 n, .int .i64 l] w fun e u => e = .returned (.bool (fitsB 7 n l)) ∧ w.grownBy u none := by
  have E : Hid (fitsB 7 n l = _) := fits7
  by_cases h1 : 0 ≤ n
  · by_cases h2 : n ≤ 99999
    · by_cases h3 : l = 0
      · subst h3
        have h2' : n < 100000 := by omega
        go_enter Tryz.func166, Tryz.ntmps166
        go_wp2
        go_ret
        exact ⟨by rw [E.out]; simp [h1, h2], World.grownBy_alloc _ _ _⟩
      · have h3' : ¬ (l : Int) = 0 := by omega
        have h2' : n < 100000 := by omega
        go_enter Tryz.func166, Tryz.ntmps166
        go_wp2
        go_ret
        exact ⟨by rw [E.out]; simp [h3], World.grownBy_alloc _ _ _⟩
    · have h2' : ¬ n < 100000 := by omega
      go_enter Tryz.func166, Tryz.ntmps166
      go_wp2
      go_ret
      exact ⟨by rw [E.out]; simp [h2], World.grownBy_alloc _ _ _⟩
  · go_enter Tryz.func166, Tryz.ntmps166
    go_wp2
    go_ret
    exact ⟨by rw [E.out]; simp; omega, World.grownBy_alloc _ _ _⟩

set_option maxHeartbeats 400000 in
theorem dataFits (n : Int) (l : Nat) (w : World) :
    Calls Tryz.prog 168 #[.agg #[], .int .i64 n, .int .i64 l] w fun e u => e = .returned (.bool (fitsB 6 n l)) ∧ w.grownBy u none := by
  have hl0 : (0 : Int) ≤ l := by omega
  by_cases h1 : 0 ≤ n
  · by_cases h2 : n ≤ 19
    · have h2' : n < 20 := by omega
      by_cases h3 : l ≤ 3
      · have h3' : (l : Int) ≤ 3 := by omega
        have E : Hid (fitsB 6 n l = true) := by show _ = _; rw [fits6 h3]; simp [h1, h2]
        go_enter Tryz.func168, Tryz.ntmps168
        go_wp2
        go_ret
        exact ⟨by rw [E.out]; simp [h3'], World.grownBy_alloc _ _ _⟩
      · have h3' : ¬ (l : Int) ≤ 3 := by omega
        have E : Hid (fitsB 6 n l = false) := fits6x h3
        go_enter Tryz.func168, Tryz.ntmps168
        go_wp2
        go_ret
        exact ⟨by rw [E.out]; first | rfl | (simp; done) | (simp; omega), World.grownBy_alloc _ _ _⟩
    · have h2' : ¬ n < 20 := by omega
      have E : Hid (fitsB 6 n l = false) := by
        show _ = _
        by_cases h3 : l ≤ 3
        · rw [fits6 h3]; simp [h2]
        · exact fits6x h3
      go_enter Tryz.func168, Tryz.ntmps168
      go_wp2
      go_ret
      exact ⟨by rw [E.out]; rfl, World.grownBy_alloc _ _ _⟩
  · have E : Hid (fitsB 6 n l = false) := by
      show _ = _
      by_cases h3 : l ≤ 3
      · rw [fits6 h3]; simp; omega
      · exact fits6x h3
    go_enter Tryz.func168, Tryz.ntmps168
    go_wp2
    go_ret
    exact ⟨by rw [E.out]; rfl, World.grownBy_alloc _ _ _⟩

theorem noFits (n : Int) (l : Nat) (w : World) :
    Calls Tryz.prog 170 #[.agg #[], .int .i64 n, .int .i64 l] w fun e u => e = .returned (.bool (fitsB 8 n l)) ∧ w.grownBy u none := by
  have E : Hid (fitsB 8 n l = false) := fitsx (by omega) (by omega) (by omega) (by omega) (by omega) (by omega) (by omega) (by omega)
  go_enter Tryz.func170, Tryz.ntmps170
  go_wp2
  go_ret
  exact ⟨by rw [E.out]; rfl, World.grownBy_alloc _ _ _⟩

set_option maxHeartbeats 400000 in
theorem fixFits (s : ByteArray) (b : Bool) (z n : Int) (l : Nat) (w : World) :
    Calls Tryz.prog 172 #[.agg #[.string s, .int .i64 z, .bool b], .int .i64 n, .int .i64 l] w fun e u => e = .returned (.bool (decide (n = 0) && decide ((l : Int) = z))) ∧ w.grownBy u none := by
  by_cases h1 : n = 0
  · subst h1
    go_enter Tryz.func172, Tryz.ntmps172
    go_wp2
    go_ret
    exact ⟨by simp; rfl, World.grownBy_alloc _ _ _⟩
  · go_enter Tryz.func172, Tryz.ntmps172
    go_wp2
    go_ret
    exact ⟨by simp [h1], World.grownBy_alloc _ _ _⟩
end Go.Proofs.YtpdkgmagjhibkaaGreatDoor.By
