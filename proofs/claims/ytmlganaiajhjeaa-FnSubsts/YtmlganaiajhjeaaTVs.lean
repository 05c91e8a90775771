/-
  The specification's variables of a tree, by their contracts. No statement is proved here.
-/
import Derived.Test.YtmlganaiajhjeaaTVb
namespace Go.Proofs.Ytmlganaiajhjeaa.By
open Go.RowKit
set_option linter.unusedVariables false
set_option linter.unusedSimpArgs false

theorem insV_skip (zs : List Int) (x : Int) : ∀ j, j < zs.length → zs.getD j 0 < x → insV (zs.drop j) x = zs.getD j 0 :: insV (zs.drop (j + 1)) x := by
  intro j hj h
  rw [List.drop_eq_getElem_cons hj, insV]
  have e : zs.getD j 0 = zs[j] := by simp [List.getD_eq_getElem?_getD, hj]
  rw [e] at h
  rw [if_pos h, e]
theorem insV_same (zs : List Int) (x : Int) : ∀ j, j < zs.length → zs.getD j 0 = x → insV (zs.drop j) x = zs.drop j := by
  intro j hj h
  rw [List.drop_eq_getElem_cons hj, insV]
  have e : zs.getD j 0 = zs[j] := by simp [List.getD_eq_getElem?_getD, hj]
  rw [e] at h
  rw [if_neg (by omega), if_pos h]
theorem insV_stop (zs : List Int) (x : Int) : ∀ j, (j < zs.length → x < zs.getD j 0) → insV (zs.drop j) x = x :: zs.drop j := by
  intro j h
  by_cases hj : j < zs.length
  · have h := h hj
    rw [List.drop_eq_getElem_cons hj, insV]
    have e : zs.getD j 0 = zs[j] := by simp [List.getD_eq_getElem?_getD, hj]
    rw [e] at h
    rw [if_neg (by omega), if_neg (by omega)]
  · rw [List.drop_eq_nil_of_le (by omega)]; rfl


set_option maxRecDepth 8000 in
set_option maxHeartbeats 1000000 in
theorem l3insertT (B : Nat) (a : Option Addr) (n c : Nat) (zs : List Int) (x : Int) (w : World) (h : OwI B w a n c zs) (hB : B ≤ w.heap.size) (hn : n ≤ 100000) :
    Calls Try.prog 73 #[.slice a n c, .int .i64 x] w fun e u => ∃ a' c', e = .returned (.slice a' (insV zs x).length c') ∧ w.grownBy u none ∧ OwI B u a' (insV zs x).length c' (insV zs x) := by
  obtain ⟨i0, hi, hz0, hz1, hz2⟩ := info_parts infoV
  have hl := h.2
  rcases h.1.2 with ⟨e, h0⟩ | ⟨g, cap, cur, e, hgB, hb, hnc, hm, hs, ht⟩
  · injection e with e1 e2 e3
    subst e1 e2 e3
    obtain rfl : zs = [] := List.eq_nil_of_length_eq_zero hl
    clear h
    go_enter Try.func73, Try.ntmps73
    go_wp2_with fail
    refine wp_loop_rounds 1 ?_
    rw [rounds_succ]
    go_upto_region 7 with fail
    have RD1 : Hid (ReadsI w none 0 []) := ⟨rfl, .inl rfl⟩
    go_upto_region 8 with (at_builtin; go_must (refine wpList_appI rfl (.tmp 34) (.tmp 37) 33 rfl w.heap.size i0 (.int .i64 0) Try.underlying33 hi hz0 hz1 hz2 rfl (.slice none 0 0) 0 [] rfl ⟨rfl, .inl ⟨rfl, rfl⟩⟩ none 0 0 [] rfl RD1.out (by simp) (by omega) (Nat.le_refl _) ?_); intro v1 w1 o1 g1 n1)
    have S1 : Hid (w1.ownsRow w.heap.size 3 1 v1 0 (valsI []) ∧ w.grownBy w1 none ∧ w.heap.size ≤ w1.heap.size) := ⟨by simpa using o1, g1, g1.size⟩
    clear o1 g1 n1 RD1
    have ga := World.grownBy_alloc w1 (.cells #[.int .i64 x] 3) none
    have S2 : Hid ((w1.alloc (.cells #[.int .i64 x] 3)).ownsRow w.heap.size 3 1 v1 0 (valsI []) ∧ ReadsI (w1.alloc (.cells #[.int .i64 x] 3)) (some ⟨w1.heap.size, 0, none⟩) 1 [x] ∧ w.grownBy (w1.alloc (.cells #[.int .i64 x] 3)) none ∧ w.heap.size ≤ (w1.alloc (.cells #[.int .i64 x] 3)).heap.size) := ⟨S1.out.1.alloc _, readsOne w1 x 3, grown_trans S1.out.2.1 ga, Nat.le_trans S1.out.2.2 ga.size⟩
    clear ga S1
    go_upto_region 9 with (at_builtin; go_must (refine wpList_appI rfl (.tmp 39) (.tmp 41) 33 rfl w.heap.size i0 (.int .i64 0) Try.underlying33 hi hz0 hz1 hz2 rfl v1 0 [] rfl S2.out.1 (some ⟨w1.heap.size, 0, none⟩) 1 1 [x] rfl S2.out.2.1 (by simp) (by omega) S2.out.2.2.2 ?_); intro v2 w2 o2 g2 n2)
    have S3 : Hid (w2.ownsRow w.heap.size 3 1 v2 1 (valsI [x]) ∧ w.grownBy w2 none ∧ w.heap.size ≤ w2.heap.size ∧ ReadsI w2 none 0 []) := ⟨by simpa using o2, ⟨g2.os.trans S2.out.2.2.1.os, g2.tape.trans S2.out.2.2.1.tape, g2.output.trans S2.out.2.2.1.output, Nat.le_trans S2.out.2.2.1.size g2.size, fun i hi _ => (g2.block i (Nat.lt_of_lt_of_le hi S2.out.2.2.1.size) (fun e => by have := (S2.out.1.lt i e.symm).1; omega)).trans (S2.out.2.2.1.block i hi (by simp))⟩, Nat.le_trans S2.out.2.2.2 g2.size, rfl, .inl rfl⟩
    clear o2 g2 n2 S2
    go_wp2_with (at_builtin; go_must (refine wpList_appI rfl (.tmp 43) (.tmp 46) 33 rfl w.heap.size i0 (.int .i64 0) Try.underlying33 hi hz0 hz1 hz2 rfl v2 1 [x] rfl S3.out.1 none 0 0 [] rfl S3.out.2.2.2 (by simp) (by omega) S3.out.2.2.1 ?_); intro v3 w3 o3 g3 n3)
    have o4 : w3.ownsRow w.heap.size 3 1 v3 1 (valsI [x]) := by simpa using o3
    obtain ⟨-, a', c', hv, hO⟩ := ownsV o4
    subst hv
    have gf : w.grownBy w3 none := ⟨g3.os.trans S3.out.2.1.os, g3.tape.trans S3.out.2.1.tape, g3.output.trans S3.out.2.1.output, Nat.le_trans S3.out.2.1.size g3.size, fun i hi _ => (g3.block i (Nat.lt_of_lt_of_le hi S3.out.2.1.size) (fun e => by have := (S3.out.1.lt i e.symm).1; omega)).trans (S3.out.2.1.block i hi (by simp))⟩
    have FF : Hid (w.grownBy w3 none ∧ OwI B w3 a' 1 c' [x]) := ⟨gf, hO.mono hB⟩
    clear o3 o4 g3 n3 gf hO S3
    go_ret
    exact ⟨a', c', rfl, FF.out⟩
  · injection e with e1 e2 e3
    subst e1 e3
    have HO : Hid (OwI B w (some ⟨g, 0, none⟩) n c zs) := h
    have hr : RowI w 3 g c zs := ⟨cur, hb, by omega, by rw [hl]; simpa using ht, by omega⟩
    have HR : Hid (RowI w 3 g c zs) := hr
    have hcell := fun j (hj : j < n) => hr.cell j (by omega)
    clear h hb ht hr hs
    go_enter Try.func73, Try.ntmps73
    go_wp2_with fail
    go_loopw [5] (fun i wr => ∃ j : Nat, j ≤ n ∧ i = .int .i64 j ∧ wr = w ∧ Hid (insV zs x = zs.take j ++ insV (zs.drop j) x)) (fun i _ => n - (intOf i).toNat)
    case atStart => exact ⟨0, Nat.zero_le _, rfl, rfl, by show _ = _; simp⟩
    case round =>
      obtain ⟨j, hj, rfl, rfl, HI⟩ := hrel
      by_cases hlt : j < n
      · have hlt' : (j : Int) < n := by omega
        have hc := hcell j hlt
        have HY : Hid (∃ y, zs.getD j 0 = y) := ⟨_, rfl⟩
        obtain ⟨y, hy⟩ := HY.out
        rw [hy] at hc
        have EY : Hid (zs.getD j 0 = y) := hy
        clear hcell hy HY
        by_cases hx : y < x
        · have HI2 : Hid (insV zs x = zs.take (j + 1) ++ insV (zs.drop (j + 1)) x) := by
            show _ = _
            rw [HI.out, insV_skip zs x j (by omega) (by rw [EY.out]; exact hx), List.take_succ_eq_append_getElem (by omega), List.append_assoc]
            simp [List.getD_eq_getElem?_getD, show j < zs.length by omega]
          clear HI HO HR
          go_wp2
          go_roundw
          case rel => exact ⟨j + 1, by omega, by go_num, trivial, HI2⟩
          case measure => simp [intOf]; omega
        · by_cases hxx : y = x
          · have FIN : Hid (insV zs x = zs) := by show _ = _; rw [HI.out, insV_same zs x j (by omega) (EY.out.trans hxx), List.take_append_drop]
            subst hxx
            clear HI HR
            go_wp2
            go_ret
            exact ⟨some ⟨g, 0, none⟩, c, (by rw [FIN.out, hl]; rfl), World.grownBy.refl _ _, (by rw [FIN.out, hl]; exact HO.out)⟩
          · have hyx : (y == x) = false := by simp [hxx]
            have FIN : Hid (insV zs x = zs.take j ++ [x] ++ zs.drop j) := by show _ = _; rw [HI.out, insV_stop zs x j (fun _ => by rw [EY.out]; omega)]; simp
            clear HI EY
            go_upto_region 7 with fail
            have hgl : g < wr.heap.size := HR.out.lt
            have RD1 : Hid (ReadsI wr (some ⟨g, 0, none⟩) j (zs.take j)) := by
              refine ⟨by rw [List.length_take]; omega, .inr ⟨g, 0, rfl, fun i hi => ?_⟩⟩
              have e := HR.out.cell i (by omega)
              rw [Nat.zero_add, e]
              simp [List.getD_eq_getElem?_getD, List.getElem?_take, hi]
            go_upto_region 8 with (at_builtin; go_must (refine wpList_appI rfl (.tmp 34) (.tmp 37) 33 rfl wr.heap.size i0 (.int .i64 0) Try.underlying33 hi hz0 hz1 hz2 rfl (.slice none 0 0) 0 [] rfl ⟨rfl, .inl ⟨rfl, rfl⟩⟩ (some ⟨g, 0, none⟩) j c (zs.take j) rfl RD1.out (by simp) (by omega) (Nat.le_refl _) ?_); intro v1 w1 o1 g1 n1)
            have S1 : Hid (w1.ownsRow wr.heap.size 3 1 v1 (0 + j) (valsI (zs.take j)) ∧ wr.grownBy w1 none ∧ wr.heap.size ≤ w1.heap.size ∧ RowI w1 3 g c zs) := ⟨by simpa using o1, g1, g1.size, HR.out.kept g1 (by simp [Value.ownBlock])⟩
            clear o1 g1 n1 RD1 HR
            have ga := World.grownBy_alloc w1 (.cells #[.int .i64 x] 3) none
            have S2 : Hid ((w1.alloc (.cells #[.int .i64 x] 3)).ownsRow wr.heap.size 3 1 v1 (0 + j) (valsI (zs.take j)) ∧ ReadsI (w1.alloc (.cells #[.int .i64 x] 3)) (some ⟨w1.heap.size, 0, none⟩) 1 [x] ∧ wr.grownBy (w1.alloc (.cells #[.int .i64 x] 3)) none ∧ wr.heap.size ≤ (w1.alloc (.cells #[.int .i64 x] 3)).heap.size ∧ RowI (w1.alloc (.cells #[.int .i64 x] 3)) 3 g c zs) := ⟨S1.out.1.alloc _, readsOne w1 x 3, grown_trans S1.out.2.1 ga, Nat.le_trans S1.out.2.2.1 ga.size, S1.out.2.2.2.kept ga (by simp)⟩
            clear ga S1
            go_upto_region 9 with (at_builtin; go_must (refine wpList_appI rfl (.tmp 39) (.tmp 41) 33 rfl wr.heap.size i0 (.int .i64 0) Try.underlying33 hi hz0 hz1 hz2 rfl v1 (0 + j) (zs.take j) rfl S2.out.1 (some ⟨w1.heap.size, 0, none⟩) 1 1 [x] rfl S2.out.2.1 (by simp) (by omega) S2.out.2.2.2.1 ?_); intro v2 w2 o2 g2 n2)
            have hne2 : some g ≠ v1.ownBlock := fun e => by have := (S2.out.1.lt g e.symm).1; omega
            have S3 : Hid (w2.ownsRow wr.heap.size 3 1 v2 (0 + j + 1) (valsI (zs.take j ++ [x])) ∧ wr.grownBy w2 none ∧ wr.heap.size ≤ w2.heap.size ∧ RowI w2 3 g c zs) := ⟨o2, ⟨g2.os.trans S2.out.2.2.1.os, g2.tape.trans S2.out.2.2.1.tape, g2.output.trans S2.out.2.2.1.output, Nat.le_trans S2.out.2.2.1.size g2.size, fun i hi _ => (g2.block i (Nat.lt_of_lt_of_le hi S2.out.2.2.1.size) (fun e => by have := (S2.out.1.lt i e.symm).1; omega)).trans (S2.out.2.2.1.block i hi (by simp))⟩, Nat.le_trans S2.out.2.2.2.1 g2.size, S2.out.2.2.2.2.kept g2 hne2⟩
            clear o2 g2 n2 S2 hne2
            have RDX : ∀ i, i < zs.length - j → w2.cell? ⟨g, j + i, none⟩ = some (.int .i64 ((zs.drop j).getD i 0)) := fun i hi => by
              have e := S3.out.2.2.2.cell (j + i) (by omega)
              rw [e]
              simp [List.getD_eq_getElem?_getD, List.getElem?_drop]
            have RD3 : Hid (ReadsI w2 (some ⟨g, j, none⟩) (n - j) (zs.drop j)) := ⟨by rw [List.length_drop]; omega, .inr ⟨g, j, rfl, fun i hi => RDX i (by omega)⟩⟩
            clear RDX
            go_wp2_with (at_builtin; go_must (refine wpList_appI rfl (.tmp 43) (.tmp 46) 33 rfl wr.heap.size i0 (.int .i64 0) Try.underlying33 hi hz0 hz1 hz2 rfl v2 (0 + j + 1) (zs.take j ++ [x]) rfl S3.out.1 (some ⟨g, j, none⟩) (n - j) (c - j) (zs.drop j) rfl RD3.out (by first | (simp; done) | (split <;> simp)) (by omega) S3.out.2.2.1 ?_); intro v3 w3 o3 g3 n3)
            all_goals (
              have hlen : 0 + j + 1 + (n - j) = (insV zs x).length := by rw [FIN.out]; simp only [List.length_append, List.length_take, List.length_drop, List.length_singleton]; omega
              have hfin : zs.take j ++ [x] ++ zs.drop j = insV zs x := FIN.out.symm
              rw [hfin, hlen] at o3
              obtain ⟨-, a', c', hv, hO⟩ := ownsV o3
              subst hv
              have gf : wr.grownBy w3 none := ⟨g3.os.trans S3.out.2.1.os, g3.tape.trans S3.out.2.1.tape, g3.output.trans S3.out.2.1.output, Nat.le_trans S3.out.2.1.size g3.size, fun i hi _ => (g3.block i (Nat.lt_of_lt_of_le hi S3.out.2.1.size) (fun e => by have := (S3.out.1.lt i e.symm).1; omega)).trans (S3.out.2.1.block i hi (by simp))⟩
              have FF : Hid (wr.grownBy w3 none ∧ OwI B w3 a' (insV zs x).length c' (insV zs x)) := ⟨gf, hO.mono hB⟩
              clear o3 g3 n3 hlen hfin gf hO S3 RD3
              go_ret
              exact ⟨a', c', rfl, FF.out⟩)
      · obtain rfl : j = n := by omega
        have FIN : Hid (insV zs x = zs.take j ++ [x] ++ zs.drop j) := by show _ = _; rw [HI.out, insV_stop zs x j (fun h => by omega)]; simp
        clear HI hcell
        go_upto_region 7 with fail
        have hgl : g < wr.heap.size := HR.out.lt
        have RD1 : Hid (ReadsI wr (some ⟨g, 0, none⟩) j (zs.take j)) := by
          refine ⟨by rw [List.length_take]; omega, .inr ⟨g, 0, rfl, fun i hi => ?_⟩⟩
          have e := HR.out.cell i (by omega)
          rw [Nat.zero_add, e]
          simp [List.getD_eq_getElem?_getD, List.getElem?_take, hi]
        go_upto_region 8 with (at_builtin; go_must (refine wpList_appI rfl (.tmp 34) (.tmp 37) 33 rfl wr.heap.size i0 (.int .i64 0) Try.underlying33 hi hz0 hz1 hz2 rfl (.slice none 0 0) 0 [] rfl ⟨rfl, .inl ⟨rfl, rfl⟩⟩ (some ⟨g, 0, none⟩) j c (zs.take j) rfl RD1.out (by simp) (by omega) (Nat.le_refl _) ?_); intro v1 w1 o1 g1 n1)
        have S1 : Hid (w1.ownsRow wr.heap.size 3 1 v1 (0 + j) (valsI (zs.take j)) ∧ wr.grownBy w1 none ∧ wr.heap.size ≤ w1.heap.size ∧ RowI w1 3 g c zs) := ⟨by simpa using o1, g1, g1.size, HR.out.kept g1 (by simp [Value.ownBlock])⟩
        clear o1 g1 n1 RD1 HR
        have ga := World.grownBy_alloc w1 (.cells #[.int .i64 x] 3) none
        have S2 : Hid ((w1.alloc (.cells #[.int .i64 x] 3)).ownsRow wr.heap.size 3 1 v1 (0 + j) (valsI (zs.take j)) ∧ ReadsI (w1.alloc (.cells #[.int .i64 x] 3)) (some ⟨w1.heap.size, 0, none⟩) 1 [x] ∧ wr.grownBy (w1.alloc (.cells #[.int .i64 x] 3)) none ∧ wr.heap.size ≤ (w1.alloc (.cells #[.int .i64 x] 3)).heap.size ∧ RowI (w1.alloc (.cells #[.int .i64 x] 3)) 3 g c zs) := ⟨S1.out.1.alloc _, readsOne w1 x 3, grown_trans S1.out.2.1 ga, Nat.le_trans S1.out.2.2.1 ga.size, S1.out.2.2.2.kept ga (by simp)⟩
        clear ga S1
        go_upto_region 9 with (at_builtin; go_must (refine wpList_appI rfl (.tmp 39) (.tmp 41) 33 rfl wr.heap.size i0 (.int .i64 0) Try.underlying33 hi hz0 hz1 hz2 rfl v1 (0 + j) (zs.take j) rfl S2.out.1 (some ⟨w1.heap.size, 0, none⟩) 1 1 [x] rfl S2.out.2.1 (by simp) (by omega) S2.out.2.2.2.1 ?_); intro v2 w2 o2 g2 n2)
        have hne2 : some g ≠ v1.ownBlock := fun e => by have := (S2.out.1.lt g e.symm).1; omega
        have S3 : Hid (w2.ownsRow wr.heap.size 3 1 v2 (0 + j + 1) (valsI (zs.take j ++ [x])) ∧ wr.grownBy w2 none ∧ wr.heap.size ≤ w2.heap.size ∧ RowI w2 3 g c zs) := ⟨o2, ⟨g2.os.trans S2.out.2.2.1.os, g2.tape.trans S2.out.2.2.1.tape, g2.output.trans S2.out.2.2.1.output, Nat.le_trans S2.out.2.2.1.size g2.size, fun i hi _ => (g2.block i (Nat.lt_of_lt_of_le hi S2.out.2.2.1.size) (fun e => by have := (S2.out.1.lt i e.symm).1; omega)).trans (S2.out.2.2.1.block i hi (by simp))⟩, Nat.le_trans S2.out.2.2.2.1 g2.size, S2.out.2.2.2.2.kept g2 hne2⟩
        clear o2 g2 n2 S2 hne2
        have RDX : ∀ i, i < zs.length - j → w2.cell? ⟨g, j + i, none⟩ = some (.int .i64 ((zs.drop j).getD i 0)) := fun i hi => by
          have e := S3.out.2.2.2.cell (j + i) (by omega)
          rw [e]
          simp [List.getD_eq_getElem?_getD, List.getElem?_drop]
        have RD3 : Hid (ReadsI w2 (if c = j then some ⟨g, 0, none⟩ else some ⟨g, j, none⟩) 0 (zs.drop j)) := ⟨by rw [List.length_drop]; omega, .inl rfl⟩
        clear RDX
        go_wp2_with (at_builtin; go_must (refine wpList_appI rfl (.tmp 43) (.tmp 46) 33 rfl wr.heap.size i0 (.int .i64 0) Try.underlying33 hi hz0 hz1 hz2 rfl v2 (0 + j + 1) (zs.take j ++ [x]) rfl S3.out.1 (if c = j then some ⟨g, 0, none⟩ else some ⟨g, j, none⟩) 0 (c - j) (zs.drop j) rfl RD3.out (by first | (simp; done) | (split <;> simp)) (by omega) S3.out.2.2.1 ?_); intro v3 w3 o3 g3 n3)
        all_goals (
          have hlen : 0 + j + 1 + 0 = (insV zs x).length := by rw [FIN.out]; simp only [List.length_append, List.length_take, List.length_drop, List.length_singleton]; omega
          have hfin : zs.take j ++ [x] ++ zs.drop j = insV zs x := FIN.out.symm
          rw [hfin, hlen] at o3
          obtain ⟨-, a', c', hv, hO⟩ := ownsV o3
          subst hv
          have gf : wr.grownBy w3 none := ⟨g3.os.trans S3.out.2.1.os, g3.tape.trans S3.out.2.1.tape, g3.output.trans S3.out.2.1.output, Nat.le_trans S3.out.2.1.size g3.size, fun i hi _ => (g3.block i (Nat.lt_of_lt_of_le hi S3.out.2.1.size) (fun e => by have := (S3.out.1.lt i e.symm).1; omega)).trans (S3.out.2.1.block i hi (by simp))⟩
          have FF : Hid (wr.grownBy w3 none ∧ OwI B w3 a' (insV zs x).length c' (insV zs x)) := ⟨gf, hO.mono hB⟩
          clear o3 g3 n3 hlen hfin gf hO S3 RD3
          go_ret
          exact ⟨a', c', rfl, FF.out⟩)

set_option maxRecDepth 8000 in
set_option maxHeartbeats 1000000 in
theorem l3varsT (B : Nat) (m : Nat) : ∀ (d : F) (k n : Int) (a : Option Addr) (l c : Nat) (al : Option Addr) (nl cl : Nat) (zs : List Int) (w : World), d.size < m → SlF w a l d → OwI B w al nl cl zs → B ≤ w.heap.size → zs.length + (1 + d.size) ≤ 100000 →
    Calls Try.prog 45 #[.agg #[.int .i64 k, .int .i64 n, .slice a l c], .slice al nl cl] w fun e u => ∃ a' c', e = .returned (.slice a' (insL zs (vT k n d)).length c') ∧ w.grownBy u none ∧ OwI B u a' (insL zs (vT k n d)).length c' (insL zs (vT k n d)) := by
  induction m with
  | zero => intro d k n a l c al nl cl zs w hm; exact absurd hm (Nat.not_lt_zero _)
  | succ m ih =>
    intro d k n a l c al nl cl zs w hm h ho hB hlen
    have hfl := h.1
    have hl := h.2.1
    have hnl := ho.2
    have g0 := World.grownBy_alloc w (.cells #[.int .i64 k, .int .i64 n, .slice a l c] 25) none
    have b0 := heap_alloc_new w (.cells #[.int .i64 k, .int .i64 n, .slice a l c] 25)
    have FX : Hid (w.grownBy (w.alloc (.cells #[.int .i64 k, .int .i64 n, .slice a l c] 25)) none ∧ (w.alloc (.cells #[.int .i64 k, .int .i64 n, .slice a l c] 25)).heap[w.heap.size]? = some (Obj.cells #[.int .i64 k, .int .i64 n, .slice a l c] 25) ∧ OwI B (w.alloc (.cells #[.int .i64 k, .int .i64 n, .slice a l c] 25)) al nl cl zs ∧ B ≤ (w.alloc (.cells #[.int .i64 k, .int .i64 n, .slice a l c] 25)).heap.size) := ⟨g0, b0, ho.kept g0, Nat.le_trans hB g0.size⟩
    by_cases h7 : k = 7
    · subst h7
      have CC : Hid _ := l3insertT B al nl cl zs n _ FX.out.2.2.1 FX.out.2.2.2 (by omega)
      have E : Hid (insL zs (vT 7 n d) = insV zs n) := rfl
      clear ih h ho g0 b0
      go_enter Try.func45, Try.ntmps45
      go_wp2_with fail
      refine Calls.mono CC.out ?_
      rintro e u ⟨a', c', rfl, hg, hO⟩
      have FF : Hid (w.grownBy u none ∧ OwI B u a' (insV zs n).length c' (insV zs n)) := ⟨grown_trans FX.out.1 hg, hO⟩
      clear hg hO CC FX
      simp only []
      go_wp2
      go_ret
      exact ⟨a', c', by rw [E.out]; rfl, by rw [E.out]; exact FF.out⟩
    · have E : Hid (vT k n d = varsF d) := by show _ = _; unfold vT; rw [if_neg h7]
      have IH : Hid _ := ih
      have hk7 : (k == 7) = false := by simp [h7]
      rcases h.cases with ⟨rfl, rfl⟩ | ⟨b, o, rfl, hin, -, hpos⟩
      · have FF : Hid (insL zs (vT k n .nil) = zs) := by show _ = _; rw [E.out]; rfl
        clear ih h ho g0 b0 IH
        obtain ⟨⟨y0, y1, y2⟩, -⟩ := three FX.out.2.1
        go_enter Try.func45, Try.ntmps45
        go_wp2
        refine wp_loop_rounds 1 ?_
        rw [rounds_succ]
        go_wp2
        go_ret
        exact ⟨al, cl, by rw [FF.out, hnl]; rfl, FX.out.1, by rw [FF.out, hnl]; exact FX.out.2.2.1⟩
      · have IN : Hid (InF w d b o) := hin
        clear ih h ho g0 b0 hin
        obtain ⟨⟨y0, y1, y2⟩, -⟩ := three FX.out.2.1
        generalize ep : w.heap.size = q at *
        go_enter Try.func45, Try.ntmps45
        go_wp2
        clear y0 y1 y2
        go_loopw [1, 5] (fun v i wr => ∃ (j : Nat) (R : F) (us : List Int) (av : Option Addr) (cv : Nat), j ≤ l ∧ i = .int .i64 j ∧ v = .slice av us.length cv ∧ R.len + j = l ∧ R.size ≤ d.size ∧ us.length + R.size ≤ 100000 ∧ Hid (InF w R b (o + j * 3)) ∧ Hid (insL us (varsF R) = insL zs (varsF d)) ∧ Hid (w.grownBy wr none ∧ wr.heap[q]? = some (Obj.cells #[.int .i64 k, .int .i64 n, .slice (some ⟨b, o, none⟩) l c] 25) ∧ OwI B wr av us.length cv us ∧ B ≤ wr.heap.size)) (fun _ i _ => l - (intOf i).toNat)
        case atStart => exact ⟨0, d, zs, al, cl, Nat.zero_le _, rfl, by rw [hnl], by omega, Nat.le_refl _, by omega, by simpa using IN, rfl, by rw [hnl]; exact FX⟩
        case round =>
          clear FX IN
          obtain ⟨j, R, us, av, cv, hj, rfl, rfl, hRl, hRs, hus, hR, hV, LI⟩ := hrel
          obtain ⟨⟨y0, y1, y2⟩, -⟩ := three LI.out.2.1
          by_cases hlt : j < l
          · have hlt' : (j : Int) < l := by omega
            obtain ⟨q1, hq1⟩ : ∃ q, R.len = q + 1 := ⟨R.len - 1, by omega⟩
            obtain ⟨kk, nn, d', R', rfl, hR'⟩ := F.cons_of_len hq1
            have hRw := hR.out.none LI.out.1
            obtain ⟨a2, l2, c2, z0, z1, z2, hd, -⟩ := hRw.out
            obtain ⟨a3, l3, c3, -, -, -, -, hR2⟩ := hR.out.out
            have e3 : o + j * 3 + 3 = o + (j + 1) * 3 := by omega
            rw [e3] at hR2
            have hds : d'.size < m := by simp only [F.size] at hRs hm; omega
            have hRs' : R'.size ≤ d.size := by simp only [F.size] at hRs; omega
            have hsz : (F.cons kk nn d' R').size = 1 + d'.size + R'.size := rfl
            rw [hsz] at hus
            have CC : Hid _ := IH.out d' kk nn a2 l2 c2 av us.length cv us wr hds hd LI.out.2.2.1 LI.out.2.2.2 (by omega)
            have h1 := insL_len (vT kk nn d') us
            have h2 := vT_len kk nn d'
            have HV2 : Hid (insL (insL us (vT kk nn d')) (varsF R') = insL zs (varsF d)) := by show _ = _; rw [← hV.out, ← insL_app]; rfl
            generalize insL us (vT kk nn d') = us2 at *
            have HR2 : Hid (InF w R' b (o + (j + 1) * 3)) := hR2
            clear hR hRw hd hR2 hV IH hsz hRs
            go_wp2_with fail
            refine Calls.mono CC.out ?_
            rintro e u ⟨a', c', rfl, hg, hO⟩
            have LN : Hid (w.grownBy u none ∧ u.heap[q]? = some (Obj.cells #[.int .i64 k, .int .i64 n, .slice (some ⟨b, o, none⟩) l c] 25) ∧ OwI B u a' us2.length c' us2 ∧ B ≤ u.heap.size) := ⟨grown_trans LI.out.1 hg, (hg.block _ (lt_of_block LI.out.2.1) (by simp)).trans LI.out.2.1, hO, Nat.le_trans LI.out.2.2.2 hg.size⟩
            clear hg hO CC LI z0 z1 z2 y0 y1 y2
            simp only []
            go_wp2
            go_roundw
            case rel => exact ⟨j + 1, R', us2, a', c', by omega, by go_num, rfl, by omega, hRs', by omega, HR2, HV2, LN⟩
            case measure => simp [intOf]; omega
          · obtain rfl : j = l := by omega
            obtain rfl : R = .nil := F.nil_of_len (by omega)
            have FF : Hid (insL zs (vT k n d) = us) := by show _ = _; rw [E.out]; exact hV.out.symm
            clear hV hR IH
            go_wp2
            go_ret
            exact ⟨av, cv, by rw [FF.out]; rfl, LI.out.1, by rw [FF.out]; exact LI.out.2.2.1⟩
end Go.Proofs.Ytmlganaiajhjeaa.By
