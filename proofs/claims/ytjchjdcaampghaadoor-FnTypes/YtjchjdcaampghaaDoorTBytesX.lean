/-
  The specification's bytes of any tree, behind a row that is older than the tree. No statement is proved here.
-/
import Derived.Test.YtjchjdcaampghaaDoorTBytesW
import Derived.Test.YtjchjdcaampghaaDoorTByLJ
import Derived.Test.YtjchjdcaampghaaDoorTEq
import Derived.Deep.DeepCutAuto
import Derived.Deep.CutBlock
namespace Go.Proofs.YtjchjdcaampghaaDoor.By
open Go.RowKit
set_option linter.unusedVariables false
set_option linter.unusedSimpArgs false

theorem SlO.frX {w u : World} {B : Nat} {f : F} {a : Option Addr} {l c : Nat} {bs : List Nat} (h : SlO w 25 a l c f bs) (hf : Fr B w u) : SlO u 25 a l c f bs :=
  h.of (fun g hg => by obtain ⟨cur, hc⟩ := h.blk g hg; rw [hc]; exact hf.other g cur _ _ hc (by decide))
theorem SlO.casesX {w : World} {t : TypeId} {f : F} {a : Option Addr} {l c : Nat} {bs : List Nat} (h : SlO w t a l c f bs) : (l = 0 ∧ f = .nil) ∨ ∃ b o bs', a = some ⟨b, o, none⟩ ∧ OwnF w t f b o bs' ∧ (∃ cur, w.heap[b]? = some (.cells cur t (0, 0))) ∧ f.len = l ∧ 0 < l := by
  have hb := h.blk
  obtain ⟨h1, h2, h3, h4⟩ := h
  rcases h4 with ⟨h4, _⟩ | ⟨g, bs', h0, e, rfl, _, ho⟩
  · have : l = 0 := by omega
    subst this
    exact .inl ⟨rfl, F.nil_of_len h1⟩
  · exact .inr ⟨g, 0, bs', e, ho, hb g (by simp), h1, h0⟩


set_option maxRecDepth 8000 in
set_option maxHeartbeats 2000000 in
theorem l3bytesX (B : Nat) (m : Nat) : ∀ (d : F) (k n : Int) (a : Option Addr) (l c : Nat) (v : Value) (zs : List Int) (w : World) (bs : List Nat), d.size < m → SlO w 25 a l c d bs → B ≤ w.heap.size → w.ownsRow B 5 1 v zs.length (vals zs) → zs.length + 11 * (1 + d.size) ≤ 1000000 →
    Calls Tryd.prog 23 #[v, .agg #[.int .i64 k, .int .i64 n, .slice a l c]] w fun e u => ∃ v', e = .returned v' ∧ Acc B u v' (zs ++ tyW k n d) ∧ Fr B w u := by
  induction m with
  | zero => intro d k n a l c v zs w bs hm; exact absurd hm (Nat.not_lt_zero _)
  | succ m ih =>
    intro d k n a l c v zs w bs hm h hb ho hlen
    obtain ⟨i0, hi, hz0, hz1, hz2⟩ := info_parts info5
    have hfl := h.1
    have hl := h.2.1
    have hB := hb
    -- the box of the tree, then the byte of its kind
    have g0 := World.grownBy_alloc w (.cells #[.int .i64 k, .int .i64 n, .slice a l c] 25) none
    have b0 := heap_alloc_new w (.cells #[.int .i64 k, .int .i64 n, .slice a l c] 25)
    have ho1 := ho.kept g0 (Classical.em _)
    have HO : Hid (World.ownsRow _ B 5 1 v zs.length (vals zs)) := ho1
    have E1 : Hid (zs.length + 1 ≤ maxLen) := by show _ ≤ _; unfold maxLen; omega
    have E2 : Hid ((zs.length + 1) * 1 ≤ 140737488355328) := by show _ ≤ _; omega
    have E3 : ∀ o, Hid (B ≤ ((w.alloc (.cells #[.int .i64 k, .int .i64 n, .slice a l c] 25)).alloc o).heap.size) := by intro o; show _ ≤ _; simp; omega
    obtain ⟨kb, hkw⟩ : ∃ kb, IntKind.u8.wrap k = kb := ⟨_, rfl⟩
    have HKB : Hid (IntKind.u8.wrap k = kb) := hkw
    have HC : Hid (∀ j u, [Value.int .u8 kb][j]? = some u → ((w.alloc (.cells #[.int .i64 k, .int .i64 n, .slice a l c] 25)).alloc (.cells #[.int .u8 kb] 5)).cell? ((⟨w.heap.size + 1, 0, none⟩ : Addr).add j) = some u) := by
      have e : (w.alloc (.cells #[.int .i64 k, .int .i64 n, .slice a l c] 25)).heap.size = w.heap.size + 1 := by simp
      have hc := cell_one_new (w.alloc (.cells #[.int .i64 k, .int .i64 n, .slice a l c] 25)) (.int .u8 kb) 5
      rw [e] at hc
      exact hc
    have IH : Hid _ := ih
    have HS : Hid (SlO w 25 a l c d bs ∧ B ≤ w.heap.size) := ⟨h, hb⟩
    have FX : Hid (w.grownBy _ none ∧ _ = some (Obj.cells #[.int .i64 k, .int .i64 n, .slice a l c] 25) ∧ B ≤ w.heap.size) := ⟨g0, b0, hB⟩
    have HF : Hid (True ∧ True ∧ zs.length + 11 * (1 + d.size) ≤ 1000000) := ⟨trivial, trivial, hlen⟩
    clear ih h hb g0 b0 hB ho ho1 hlen
    go_enter Tryd.func23, Tryd.ntmps23
    go_upto_region 2 with (at_builtin; go_must (refine wpList_append_own _ rfl (.tmp 6) (.tmp 10) 22 rfl B 5 i0 (.int .u8 0) 1 1 Tryd.underlying22 hi hz0 hz1 hz2 rfl (by decide) v zs.length (vals zs) rfl (HO.out.alloc _) ⟨w.heap.size + 1, 0, none⟩ 1 1 [.int .u8 kb] rfl rfl HC.out (by simp [Value.oneCell']) E1.out E2.out (E3 _).out ?_); intro v1 w1 hown1 hgrow1 hnil1)
    have A1 : Hid (Acc B w1 v1 (zs ++ [kb])) := by
      refine And.intro ?_ (fun e => by have := (hnil1.1 e).2; omega)
      have e := own_step hown1
      simpa using e
    have FY : Hid (Fr B w w1 ∧ w1.heap[w.heap.size]? = some (Obj.cells #[.int .i64 k, .int .i64 n, .slice a l c] 25)) := by
      obtain ⟨g0, b0, hB⟩ := FX.out
      have ga := World.grownBy_alloc (w.alloc (.cells #[.int .i64 k, .int .i64 n, .slice a l c] 25)) (.cells #[.int .u8 kb] 5) none
      have f1 := Fr.own hgrow1 (HO.out.alloc _) (E3 _).out
      exact ⟨(Fr.grown (grown_trans g0 ga) hB).trans f1, f1.three ((ga.block _ (lt_of_block b0) (by simp)).trans b0) (by decide)⟩
    clear hown1 hgrow1 hnil1 HC HO hkw E1 E2 E3 hi hz0 hz1 hz2
    have hB : B ≤ w.heap.size := FX.out.2.2
    clear FX
    generalize ep : w.heap.size = q at *
    obtain ⟨⟨x0, x1, x2⟩, -⟩ := three FY.out.2
    obtain ⟨gr, cap, hv1, hgB, hrow, hcm⟩ := A1.out.row
    have e11 : (zs ++ [kb]).length = zs.length + 1 := by simp
    rw [e11] at hv1
    subst hv1
    have hlen := HF.out.2.2
    generalize hN1 : zs.length + 1 = N1 at *
    have E11 : Hid ((zs ++ [kb]).length = N1 ∧ zs.length + 1 = N1) := ⟨e11, hN1⟩
    clear e11 hN1
    by_cases h6 : k = 6
    · have CC : Hid _ := specPutM gr N1 cap (zs ++ [kb]) n w1 hrow E11.out.1 (by have := E11.out.2; omega)
      have hl5 := numB_len n
      have hL5 : Hid ((numB n).length ≤ 5 ∧ N1 ≤ 1000000) := ⟨hl5, by have := E11.out.2; omega⟩
      subst h6
      clear hrow hl5 hlen
      go_wp2_with fail
      refine Calls.mono CC.out ?_
      rintro e u ⟨g, cp, rfl, hg, hgs, hr, hcp⟩
      have FZ : Hid (Fr B w u ∧ u.heap[q]? = some (Obj.cells #[.int .i64 6, .int .i64 n, .slice a l c] 25)) := ⟨FY.out.1.trans (Fr.grown hg (by have := FY.out.1.below.size; omega)), (hg.block _ (lt_of_block FY.out.2) (by simp)).trans FY.out.2⟩
      have C2 : Hid _ := specPutM g _ cp (zs ++ [kb] ++ numB n) (l : Int) u hr (by rw [List.length_append, E11.out.1]) (by have := hL5.out; omega)
      obtain ⟨⟨y0, y1, y2⟩, -⟩ := three FZ.out.2
      have hgs' : B ≤ u.heap.size := by have := hg.size; have := FY.out.1.below.size; omega
      clear hg hgs hr hcp CC x0 x1 x2 A1 FY
      simp only []
      go_wp2_with fail
      refine Calls.mono C2.out ?_
      rintro e u2 ⟨g2, cp2, rfl, hg, hgs, hr, hcp⟩
      have AL : Hid (Acc B u2 (.slice (some ⟨g2, 0, none⟩) (N1 + (numB n).length + (numB (l : Int)).length) cp2) (zs ++ headW 6 n l)) := by
        show Acc _ _ _ _
        have e : zs ++ headW 6 n l = zs ++ [kb] ++ numB n ++ numB (l : Int) := by rw [headW, HKB.out]; simp
        have := Acc.of_row (B := B) hr (by omega) hcp
        rw [e]
        have e2 : (zs ++ [kb] ++ numB n ++ numB (l : Int)).length = N1 + (numB n).length + (numB (l : Int)).length := by rw [List.length_append, List.length_append, E11.out.1]
        rw [e2] at this
        exact this
      have FL : Hid (Fr B w u2 ∧ u2.heap[q]? = some (Obj.cells #[.int .i64 6, .int .i64 n, .slice a l c] 25)) := ⟨FZ.out.1.trans (Fr.grown hg hgs'), (hg.block _ (lt_of_block FZ.out.2) (by simp)).trans FZ.out.2⟩
      clear hg hgs hr hcp C2 y0 y1 y2 FZ hgs'
      simp only []
      generalize Value.slice (some ⟨g2, 0, none⟩) (N1 + (numB n).length + (numB (l : Int)).length) cp2 = vl at *
      clear hL5 E11
      rcases HS.out.1.casesX with ⟨rfl, rfl⟩ | ⟨b, o, bs', rfl, hin, hblk, -, hpos⟩
      · obtain ⟨⟨y0, y1, y2⟩, -⟩ := three FL.out.2
        have FIN : Hid (Acc B u2 vl (zs ++ tyW 6 n .nil)) := by
          show Acc _ _ _ _
          have e : zs ++ tyW 6 n .nil = zs ++ headW 6 n 0 := by simp [tyW, bytesW, F.len]
          rw [e]; exact AL.out
        clear IH AL
        go_wp2
        refine wp_loop_rounds 1 ?_
        rw [rounds_succ]
        go_wp2
        go_ret
        exact ⟨_, rfl, FIN.out, FL.out.1⟩
      have IN : Hid (OwnF w 25 d b o bs') := hin
      have HB : Hid (∃ cur, w.heap[b]? = some (Obj.cells cur 25 (0, 0))) := hblk
      have PR : Hid (headW 6 n l ++ bytesW d = tyW 6 n d) := by show _ = _; rw [tyW, hfl]
      have hhl : (headW 6 n l).length ≤ 11 := headW_len _ _ _
      have hlen2 : zs.length + 11 * (1 + d.size) ≤ 1000000 := HF.out.2.2
      clear hin HS hblk
      have Q0 := three FL.out.2
      obtain ⟨⟨y0, y1, y2⟩, -⟩ := Q0
      go_wp2
      clear y0 y1 y2
      go_loopw [0, 5] (fun v i wr => ∃ (j : Nat) (R : F) (pre : List Int), j ≤ l ∧ i = .int .i64 j ∧ R.len + j = l ∧ R.size ≤ d.size ∧ Hid (∃ bsR, OwnF w 25 R b (o + j * 3) bsR) ∧ Hid (Acc B wr v (zs ++ pre)) ∧ Hid (pre ++ bytesW R = tyW 6 n d) ∧ Hid (Fr B w wr ∧ wr.heap[q]? = some (Obj.cells #[.int .i64 6, .int .i64 n, .slice (some ⟨b, o, none⟩) l c] 25)) ∧ Hid (zs.length + pre.length + 11 * R.size ≤ 1000000)) (fun _ i _ => l - (intOf i).toNat)
      case atStart => exact ⟨0, d, headW 6 n l, Nat.zero_le _, rfl, by omega, Nat.le_refl _, ⟨bs', by simpa using IN.out⟩, AL, PR, FL, by show _ ≤ _; omega⟩
      case round =>
        clear AL FL
        obtain ⟨j, R, pre, hj, rfl, hRl, hRs, hR, hA, hP, hFr, hN⟩ := hrel
        obtain ⟨⟨y0, y1, y2⟩, -⟩ := three hFr.out.2
        by_cases hlt : j < l
        · obtain ⟨q1, hq1⟩ : ∃ q, R.len = q + 1 := ⟨R.len - 1, by omega⟩
          obtain ⟨kk, nn, d', R', rfl, hR'⟩ := F.cons_of_len hq1
          obtain ⟨bsR, hRo⟩ := hR.out
          obtain ⟨bs1, bs2, a2, l2, c2, -, zz0, zz1, zz2, hd3, hR2⟩ := hRo.out
          obtain ⟨cur, hcur⟩ := HB.out
          have hcu := hFr.out.1.other b cur _ _ hcur (by decide)
          have hce : ∀ i, wr.cell? ⟨b, i, none⟩ = w.cell? ⟨b, i, none⟩ := fun i => by rw [cell_of_row _ b _ _ _ _ hcu, cell_of_row _ b _ _ _ _ hcur]
          have z0 := (hce _).trans zz0
          have z1 := (hce _).trans zz1
          have z2 := (hce _).trans zz2
          have hd4 := hd3.frX hFr.out.1
          have hBw : B ≤ wr.heap.size := by have := hFr.out.1.below.size; omega
          have e3 : o + j * 3 + 3 = o + (j + 1) * 3 := by omega
          rw [e3] at hR2
          have hds : d'.size < m := by simp only [F.size] at hRs hm; omega
          have hRs' : R'.size ≤ d.size := by simp only [F.size] at hRs; omega
          have hNN := hN.out
          simp only [F.size] at hNN
          have CC : Hid _ := IH.out d' kk nn a2 l2 c2 u0 (zs ++ pre) wr bs1 hds hd4 hBw (by have := hA.out.1; exact this) (by rw [List.length_append]; omega)
          have FX : Hid ((∃ bsR, OwnF w 25 R' b (o + (j + 1) * 3) bsR) ∧ True ∧ zs.length + (pre ++ tyW kk nn d').length + 11 * R'.size ≤ 1000000 ∧ (pre ++ tyW kk nn d') ++ bytesW R' = tyW 6 n d) := by
            refine ⟨⟨bs2, hR2⟩, trivial, ?_, ?_⟩
            · have h1 := headW_len kk nn d'.len
              have h2 := bytesW_len d'
              rw [List.length_append, tyW, List.length_append]; omega
            · rw [← hP.out, bytesW, tyW]; simp only [List.append_assoc]
          clear hR hR2 hd3 hd4 hP hcur hcu hce hRo zz0 zz1 zz2 hN hNN IN IH PR hhl hlen2 hBw
          go_wp2_with fail
          refine Calls.mono CC.out ?_
          rintro e u ⟨v', rfl, hA2, hF2⟩
          have AC : Hid (Acc B u v' (zs ++ (pre ++ tyW kk nn d'))) := by show Acc _ _ _ _; rw [← List.append_assoc]; exact hA2
          have FR : Hid (Fr B w u ∧ u.heap[q]? = some (Obj.cells #[.int .i64 6, .int .i64 n, .slice (some ⟨b, o, none⟩) l c] 25)) := ⟨hFr.out.1.trans hF2, hF2.three hFr.out.2 (by decide)⟩
          clear hA2 hF2 CC z0 z1 z2 y0 y1 y2 hFr hA
          simp only []
          go_wp2
          go_roundw
          case rel => exact ⟨j + 1, R', pre ++ tyW kk nn d', by omega, by go_num, by omega, hRs', FX.out.1, AC, FX.out.2.2.2, FR, FX.out.2.2.1⟩
          case measure => simp [intOf]; omega
        · obtain rfl : j = l := by omega
          obtain rfl : R = .nil := F.nil_of_len (by omega)
          have FIN : Hid (Acc B wr u0 (zs ++ tyW 6 n d)) := by
            show Acc _ _ _ _
            have e := hP.out
            simp only [bytesW, List.append_nil] at e
            rw [← e]; exact hA.out
          clear hP hA
          go_wp2
          go_ret
          exact ⟨_, rfl, FIN.out, hFr.out.1⟩
    by_cases h7 : k = 7
    · have CC : Hid _ := specPutM gr N1 cap (zs ++ [kb]) n w1 hrow E11.out.1 (by have := E11.out.2; omega)
      subst h7
      clear hrow hlen
      go_wp2_with fail
      refine Calls.mono CC.out ?_
      rintro e u ⟨g, cp, rfl, hg, hgs, hr, hcp⟩
      have AL : Hid (Acc B u (.slice (some ⟨g, 0, none⟩) (N1 + (numB n).length) cp) (zs ++ headW 7 n l)) := by
        show Acc _ _ _ _
        have e : zs ++ headW 7 n l = zs ++ [kb] ++ numB n := by rw [headW, HKB.out]; simp
        have := Acc.of_row (B := B) hr (by have := FY.out.1.below.size; omega) hcp
        rw [e]
        have e2 : (zs ++ [kb] ++ numB n).length = N1 + (numB n).length := by rw [List.length_append, E11.out.1]
        rw [e2] at this
        exact this
      have FL : Hid (Fr B w u ∧ u.heap[q]? = some (Obj.cells #[.int .i64 7, .int .i64 n, .slice a l c] 25)) := ⟨FY.out.1.trans (Fr.grown hg (by have := FY.out.1.below.size; omega)), (hg.block _ (lt_of_block FY.out.2) (by simp)).trans FY.out.2⟩
      clear hg hgs hr hcp CC x0 x1 x2 A1 FY
      obtain ⟨⟨x0, x1, x2⟩, -⟩ := three FL.out.2
      generalize Value.slice (some ⟨g, 0, none⟩) (N1 + (numB n).length) cp = vl at *
      clear E11
      simp only []
      rcases HS.out.1.casesX with ⟨rfl, rfl⟩ | ⟨b, o, bs', rfl, hin, hblk, -, hpos⟩
      · obtain ⟨⟨y0, y1, y2⟩, -⟩ := three FL.out.2
        have FIN : Hid (Acc B u vl (zs ++ tyW 7 n .nil)) := by
          show Acc _ _ _ _
          have e : zs ++ tyW 7 n .nil = zs ++ headW 7 n 0 := by simp [tyW, bytesW, F.len]
          rw [e]; exact AL.out
        clear IH AL
        go_wp2
        refine wp_loop_rounds 1 ?_
        rw [rounds_succ]
        go_wp2
        go_ret
        exact ⟨_, rfl, FIN.out, FL.out.1⟩
      have IN : Hid (OwnF w 25 d b o bs') := hin
      have HB : Hid (∃ cur, w.heap[b]? = some (Obj.cells cur 25 (0, 0))) := hblk
      have PR : Hid (headW 7 n l ++ bytesW d = tyW 7 n d) := by show _ = _; rw [tyW, hfl]
      have hhl : (headW 7 n l).length ≤ 11 := headW_len _ _ _
      have hlen2 : zs.length + 11 * (1 + d.size) ≤ 1000000 := HF.out.2.2
      clear hin HS hblk
      have Q0 := three FL.out.2
      obtain ⟨⟨y0, y1, y2⟩, -⟩ := Q0
      go_wp2
      clear y0 y1 y2
      go_loopw [0, 5] (fun v i wr => ∃ (j : Nat) (R : F) (pre : List Int), j ≤ l ∧ i = .int .i64 j ∧ R.len + j = l ∧ R.size ≤ d.size ∧ Hid (∃ bsR, OwnF w 25 R b (o + j * 3) bsR) ∧ Hid (Acc B wr v (zs ++ pre)) ∧ Hid (pre ++ bytesW R = tyW 7 n d) ∧ Hid (Fr B w wr ∧ wr.heap[q]? = some (Obj.cells #[.int .i64 7, .int .i64 n, .slice (some ⟨b, o, none⟩) l c] 25)) ∧ Hid (zs.length + pre.length + 11 * R.size ≤ 1000000)) (fun _ i _ => l - (intOf i).toNat)
      case atStart => exact ⟨0, d, headW 7 n l, Nat.zero_le _, rfl, by omega, Nat.le_refl _, ⟨bs', by simpa using IN.out⟩, AL, PR, FL, by show _ ≤ _; omega⟩
      case round =>
        clear AL FL
        obtain ⟨j, R, pre, hj, rfl, hRl, hRs, hR, hA, hP, hFr, hN⟩ := hrel
        obtain ⟨⟨y0, y1, y2⟩, -⟩ := three hFr.out.2
        by_cases hlt : j < l
        · obtain ⟨q1, hq1⟩ : ∃ q, R.len = q + 1 := ⟨R.len - 1, by omega⟩
          obtain ⟨kk, nn, d', R', rfl, hR'⟩ := F.cons_of_len hq1
          obtain ⟨bsR, hRo⟩ := hR.out
          obtain ⟨bs1, bs2, a2, l2, c2, -, zz0, zz1, zz2, hd3, hR2⟩ := hRo.out
          obtain ⟨cur, hcur⟩ := HB.out
          have hcu := hFr.out.1.other b cur _ _ hcur (by decide)
          have hce : ∀ i, wr.cell? ⟨b, i, none⟩ = w.cell? ⟨b, i, none⟩ := fun i => by rw [cell_of_row _ b _ _ _ _ hcu, cell_of_row _ b _ _ _ _ hcur]
          have z0 := (hce _).trans zz0
          have z1 := (hce _).trans zz1
          have z2 := (hce _).trans zz2
          have hd4 := hd3.frX hFr.out.1
          have hBw : B ≤ wr.heap.size := by have := hFr.out.1.below.size; omega
          have e3 : o + j * 3 + 3 = o + (j + 1) * 3 := by omega
          rw [e3] at hR2
          have hds : d'.size < m := by simp only [F.size] at hRs hm; omega
          have hRs' : R'.size ≤ d.size := by simp only [F.size] at hRs; omega
          have hNN := hN.out
          simp only [F.size] at hNN
          have CC : Hid _ := IH.out d' kk nn a2 l2 c2 u0 (zs ++ pre) wr bs1 hds hd4 hBw (by have := hA.out.1; exact this) (by rw [List.length_append]; omega)
          have FX : Hid ((∃ bsR, OwnF w 25 R' b (o + (j + 1) * 3) bsR) ∧ True ∧ zs.length + (pre ++ tyW kk nn d').length + 11 * R'.size ≤ 1000000 ∧ (pre ++ tyW kk nn d') ++ bytesW R' = tyW 7 n d) := by
            refine ⟨⟨bs2, hR2⟩, trivial, ?_, ?_⟩
            · have h1 := headW_len kk nn d'.len
              have h2 := bytesW_len d'
              rw [List.length_append, tyW, List.length_append]; omega
            · rw [← hP.out, bytesW, tyW]; simp only [List.append_assoc]
          clear hR hR2 hd3 hd4 hP hcur hcu hce hRo zz0 zz1 zz2 hN hNN IN IH PR hhl hlen2 hBw
          go_wp2_with fail
          refine Calls.mono CC.out ?_
          rintro e u ⟨v', rfl, hA2, hF2⟩
          have AC : Hid (Acc B u v' (zs ++ (pre ++ tyW kk nn d'))) := by show Acc _ _ _ _; rw [← List.append_assoc]; exact hA2
          have FR : Hid (Fr B w u ∧ u.heap[q]? = some (Obj.cells #[.int .i64 7, .int .i64 n, .slice (some ⟨b, o, none⟩) l c] 25)) := ⟨hFr.out.1.trans hF2, hF2.three hFr.out.2 (by decide)⟩
          clear hA2 hF2 CC z0 z1 z2 y0 y1 y2 hFr hA
          simp only []
          go_wp2
          go_roundw
          case rel => exact ⟨j + 1, R', pre ++ tyW kk nn d', by omega, by go_num, by omega, hRs', FX.out.1, AC, FX.out.2.2.2, FR, FX.out.2.2.1⟩
          case measure => simp [intOf]; omega
        · obtain rfl : j = l := by omega
          obtain rfl : R = .nil := F.nil_of_len (by omega)
          have FIN : Hid (Acc B wr u0 (zs ++ tyW 7 n d)) := by
            show Acc _ _ _ _
            have e := hP.out
            simp only [bytesW, List.append_nil] at e
            rw [← e]; exact hA.out
          clear hP hA
          go_wp2
          go_ret
          exact ⟨_, rfl, FIN.out, hFr.out.1⟩
    have AL : Hid (Acc B w1 (.slice (some ⟨gr, 0, none⟩) N1 cap) (zs ++ headW k n l)) := by
      show Acc _ _ _ _
      have e : headW k n l = [kb] := by rw [headW, HKB.out]; simp [h6, h7]
      rw [e]; exact A1.out
    have FL := FY
    generalize Value.slice (some ⟨gr, 0, none⟩) N1 cap = vl at *
    have hb6 : (k == (6 : Int)) = false := by simp [h6]
    have hb7 : (k == (7 : Int)) = false := by simp [h7]
    clear A1 FY E11 hrow hlen h6 h7
    rcases HS.out.1.casesX with ⟨rfl, rfl⟩ | ⟨b, o, bs', rfl, hin, hblk, -, hpos⟩
    · obtain ⟨⟨y0, y1, y2⟩, -⟩ := three FL.out.2
      have FIN : Hid (Acc B w1 vl (zs ++ tyW k n .nil)) := by
        show Acc _ _ _ _
        have e : zs ++ tyW k n .nil = zs ++ headW k n 0 := by simp [tyW, bytesW, F.len]
        rw [e]; exact AL.out
      clear IH AL
      go_wp2
      refine wp_loop_rounds 1 ?_
      rw [rounds_succ]
      go_wp2
      go_ret
      exact ⟨_, rfl, FIN.out, FL.out.1⟩
    have IN : Hid (OwnF w 25 d b o bs') := hin
    have HB : Hid (∃ cur, w.heap[b]? = some (Obj.cells cur 25 (0, 0))) := hblk
    have PR : Hid (headW k n l ++ bytesW d = tyW k n d) := by show _ = _; rw [tyW, hfl]
    have hhl : (headW k n l).length ≤ 11 := headW_len _ _ _
    have hlen2 : zs.length + 11 * (1 + d.size) ≤ 1000000 := HF.out.2.2
    clear hin HS hblk
    have Q0 := three FL.out.2
    obtain ⟨⟨y0, y1, y2⟩, -⟩ := Q0
    go_wp2
    clear y0 y1 y2
    go_loopw [0, 5] (fun v i wr => ∃ (j : Nat) (R : F) (pre : List Int), j ≤ l ∧ i = .int .i64 j ∧ R.len + j = l ∧ R.size ≤ d.size ∧ Hid (∃ bsR, OwnF w 25 R b (o + j * 3) bsR) ∧ Hid (Acc B wr v (zs ++ pre)) ∧ Hid (pre ++ bytesW R = tyW k n d) ∧ Hid (Fr B w wr ∧ wr.heap[q]? = some (Obj.cells #[.int .i64 k, .int .i64 n, .slice (some ⟨b, o, none⟩) l c] 25)) ∧ Hid (zs.length + pre.length + 11 * R.size ≤ 1000000)) (fun _ i _ => l - (intOf i).toNat)
    case atStart => exact ⟨0, d, headW k n l, Nat.zero_le _, rfl, by omega, Nat.le_refl _, ⟨bs', by simpa using IN.out⟩, AL, PR, FL, by show _ ≤ _; omega⟩
    case round =>
      clear AL FL
      obtain ⟨j, R, pre, hj, rfl, hRl, hRs, hR, hA, hP, hFr, hN⟩ := hrel
      obtain ⟨⟨y0, y1, y2⟩, -⟩ := three hFr.out.2
      by_cases hlt : j < l
      · obtain ⟨q1, hq1⟩ : ∃ q, R.len = q + 1 := ⟨R.len - 1, by omega⟩
        obtain ⟨kk, nn, d', R', rfl, hR'⟩ := F.cons_of_len hq1
        obtain ⟨bsR, hRo⟩ := hR.out
        obtain ⟨bs1, bs2, a2, l2, c2, -, zz0, zz1, zz2, hd3, hR2⟩ := hRo.out
        obtain ⟨cur, hcur⟩ := HB.out
        have hcu := hFr.out.1.other b cur _ _ hcur (by decide)
        have hce : ∀ i, wr.cell? ⟨b, i, none⟩ = w.cell? ⟨b, i, none⟩ := fun i => by rw [cell_of_row _ b _ _ _ _ hcu, cell_of_row _ b _ _ _ _ hcur]
        have z0 := (hce _).trans zz0
        have z1 := (hce _).trans zz1
        have z2 := (hce _).trans zz2
        have hd4 := hd3.frX hFr.out.1
        have hBw : B ≤ wr.heap.size := by have := hFr.out.1.below.size; omega
        have e3 : o + j * 3 + 3 = o + (j + 1) * 3 := by omega
        rw [e3] at hR2
        have hds : d'.size < m := by simp only [F.size] at hRs hm; omega
        have hRs' : R'.size ≤ d.size := by simp only [F.size] at hRs; omega
        have hNN := hN.out
        simp only [F.size] at hNN
        have CC : Hid _ := IH.out d' kk nn a2 l2 c2 u0 (zs ++ pre) wr bs1 hds hd4 hBw (by have := hA.out.1; exact this) (by rw [List.length_append]; omega)
        have FX : Hid ((∃ bsR, OwnF w 25 R' b (o + (j + 1) * 3) bsR) ∧ True ∧ zs.length + (pre ++ tyW kk nn d').length + 11 * R'.size ≤ 1000000 ∧ (pre ++ tyW kk nn d') ++ bytesW R' = tyW k n d) := by
          refine ⟨⟨bs2, hR2⟩, trivial, ?_, ?_⟩
          · have h1 := headW_len kk nn d'.len
            have h2 := bytesW_len d'
            rw [List.length_append, tyW, List.length_append]; omega
          · rw [← hP.out, bytesW, tyW]; simp only [List.append_assoc]
        clear hR hR2 hd3 hd4 hP hcur hcu hce hRo zz0 zz1 zz2 hN hNN IN IH PR hhl hlen2 hBw
        go_wp2_with fail
        refine Calls.mono CC.out ?_
        rintro e u ⟨v', rfl, hA2, hF2⟩
        have AC : Hid (Acc B u v' (zs ++ (pre ++ tyW kk nn d'))) := by show Acc _ _ _ _; rw [← List.append_assoc]; exact hA2
        have FR : Hid (Fr B w u ∧ u.heap[q]? = some (Obj.cells #[.int .i64 k, .int .i64 n, .slice (some ⟨b, o, none⟩) l c] 25)) := ⟨hFr.out.1.trans hF2, hF2.three hFr.out.2 (by decide)⟩
        clear hA2 hF2 CC z0 z1 z2 y0 y1 y2 hFr hA
        simp only []
        go_wp2
        go_roundw
        case rel => exact ⟨j + 1, R', pre ++ tyW kk nn d', by omega, by go_num, by omega, hRs', FX.out.1, AC, FX.out.2.2.2, FR, FX.out.2.2.1⟩
        case measure => simp [intOf]; omega
      · obtain rfl : j = l := by omega
        obtain rfl : R = .nil := F.nil_of_len (by omega)
        have FIN : Hid (Acc B wr u0 (zs ++ tyW k n d)) := by
          show Acc _ _ _ _
          have e := hP.out
          simp only [bytesW, List.append_nil] at e
          rw [← e]; exact hA.out
        clear hP hA
        go_wp2
        go_ret
        exact ⟨_, rfl, FIN.out, hFr.out.1⟩
end Go.Proofs.YtjchjdcaampghaaDoor.By
