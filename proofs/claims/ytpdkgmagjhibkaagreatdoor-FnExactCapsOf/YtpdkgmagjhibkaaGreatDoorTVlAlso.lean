/-
  Several texts in one (TVs, TVi, Shelf, TVl). No statement is proved here.
-/
import Derived.Test.YtpdkgmagjhibkaaGreatDoorTVbAlso
import Derived.Deep.DeepCutAuto
import Derived.Deep.CutBlock
import Derived.Shelf.Sort.Plain
import Derived.Shelf.Slices.CompactI
import Derived.Shelf.Slices.In.SortNone
import Derived.Ground.NamesProg
import Derived.Ground.Names2Prog
import Derived.Test.YtpdkgmagjhibkaaGreatDoorProg
import Derived.Sort.OwnSortedInts
import Derived.Lib.OwnBridge
namespace Go.Proofs.YtpdkgmagjhibkaaGreatDoor.By
open Go.RowKit
set_option linter.unusedVariables false
set_option linter.unusedSimpArgs false

theorem srtV_skip (zs : List Int) (x : Int) : ∀ j, j < zs.length → zs.getD j 0 < x → srtV (zs.drop j) x = zs.getD j 0 :: srtV (zs.drop (j + 1)) x := by
  intro j hj h
  rw [List.drop_eq_getElem_cons hj, srtV]
  have e : zs.getD j 0 = zs[j] := by simp [List.getD_eq_getElem?_getD, hj]
  rw [e] at h
  rw [if_pos h, e]
theorem srtV_same (zs : List Int) (x : Int) : ∀ j, j < zs.length → zs.getD j 0 = x → srtV (zs.drop j) x = zs.drop j := by
  intro j hj h
  rw [List.drop_eq_getElem_cons hj, srtV]
  have e : zs.getD j 0 = zs[j] := by simp [List.getD_eq_getElem?_getD, hj]
  rw [e] at h
  rw [if_neg (by omega), if_pos h]
theorem srtV_stop (zs : List Int) (x : Int) : ∀ j, (j < zs.length → x < zs.getD j 0) → srtV (zs.drop j) x = x :: zs.drop j := by
  intro j h
  by_cases hj : j < zs.length
  · have h := h hj
    rw [List.drop_eq_getElem_cons hj, srtV]
    have e : zs.getD j 0 = zs[j] := by simp [List.getD_eq_getElem?_getD, hj]
    rw [e] at h
    rw [if_neg (by omega), if_neg (by omega)]
  · rw [List.drop_eq_nil_of_le (by omega)]; rfl


set_option maxRecDepth 8000 in
set_option maxHeartbeats 1000000 in
theorem l3insertT (B : Nat) (a : Option Addr) (n c : Nat) (zs : List Int) (x : Int) (w : World) (h : OwI B w a n c zs) (hB : B ≤ w.heap.size) (hn : n ≤ 300000) :
    Calls Tryz.prog 36 #[.slice a n c, .int .i64 x] w fun e u => ∃ a' c', e = .returned (.slice a' (srtV zs x).length c') ∧ w.grownBy u none ∧ OwI B u a' (srtV zs x).length c' (srtV zs x) := by
  obtain ⟨i0, hi, hz0, hz1, hz2⟩ := info_parts infoV
  have hl := h.2
  rcases h.1.2 with ⟨e, h0⟩ | ⟨g, cap, cur, e, hgB, hb, hnc, hm, hs, ht⟩
  · injection e with e1 e2 e3
    subst e1 e2 e3
    obtain rfl : zs = [] := List.eq_nil_of_length_eq_zero hl
    clear h
    go_enter Tryz.func36, Tryz.ntmps36
    go_wp2_with fail
    refine wp_loop_rounds 1 ?_
    rw [rounds_succ]
    go_upto_region 7 with fail
    have RD1 : Hid (ReadsI w none 0 []) := ⟨rfl, .inl rfl⟩
    go_upto_region 8 with (at_builtin; go_must (refine wpList_appI rfl (.tmp 34) (.tmp 37) 24 rfl w.heap.size i0 (.int .i64 0) Tryz.underlying24 hi hz0 hz1 hz2 rfl (.slice none 0 0) 0 [] rfl ⟨rfl, .inl ⟨rfl, rfl⟩⟩ none 0 0 [] rfl RD1.out (by simp) (by omega) (Nat.le_refl _) ?_); intro v1 w1 o1 g1 n1)
    have S1 : Hid (w1.ownsRow w.heap.size 3 1 v1 0 (valsI []) ∧ w.grownBy w1 none ∧ w.heap.size ≤ w1.heap.size) := ⟨by simpa using o1, g1, g1.size⟩
    clear o1 g1 n1 RD1
    have ga := World.grownBy_alloc w1 (.cells #[.int .i64 x] 3) none
    have S2 : Hid ((w1.alloc (.cells #[.int .i64 x] 3)).ownsRow w.heap.size 3 1 v1 0 (valsI []) ∧ ReadsI (w1.alloc (.cells #[.int .i64 x] 3)) (some ⟨w1.heap.size, 0, none⟩) 1 [x] ∧ w.grownBy (w1.alloc (.cells #[.int .i64 x] 3)) none ∧ w.heap.size ≤ (w1.alloc (.cells #[.int .i64 x] 3)).heap.size) := ⟨S1.out.1.alloc _, readsOne w1 x 3, grown_trans S1.out.2.1 ga, Nat.le_trans S1.out.2.2 ga.size⟩
    clear ga S1
    go_upto_region 9 with (at_builtin; go_must (refine wpList_appI rfl (.tmp 39) (.tmp 41) 24 rfl w.heap.size i0 (.int .i64 0) Tryz.underlying24 hi hz0 hz1 hz2 rfl v1 0 [] rfl S2.out.1 (some ⟨w1.heap.size, 0, none⟩) 1 1 [x] rfl S2.out.2.1 (by simp) (by omega) S2.out.2.2.2 ?_); intro v2 w2 o2 g2 n2)
    have S3 : Hid (w2.ownsRow w.heap.size 3 1 v2 1 (valsI [x]) ∧ w.grownBy w2 none ∧ w.heap.size ≤ w2.heap.size ∧ ReadsI w2 none 0 []) := ⟨by simpa using o2, ⟨g2.os.trans S2.out.2.2.1.os, g2.tape.trans S2.out.2.2.1.tape, g2.output.trans S2.out.2.2.1.output, Nat.le_trans S2.out.2.2.1.size g2.size, fun i hi _ => (g2.block i (Nat.lt_of_lt_of_le hi S2.out.2.2.1.size) (fun e => by have := (S2.out.1.lt i e.symm).1; omega)).trans (S2.out.2.2.1.block i hi (by simp))⟩, Nat.le_trans S2.out.2.2.2 g2.size, rfl, .inl rfl⟩
    clear o2 g2 n2 S2
    go_wp2_with (at_builtin; go_must (refine wpList_appI rfl (.tmp 43) (.tmp 46) 24 rfl w.heap.size i0 (.int .i64 0) Tryz.underlying24 hi hz0 hz1 hz2 rfl v2 1 [x] rfl S3.out.1 none 0 0 [] rfl S3.out.2.2.2 (by simp) (by omega) S3.out.2.2.1 ?_); intro v3 w3 o3 g3 n3)
    have o4 : w3.ownsRow w.heap.size 3 1 v3 1 (valsI [x]) := by simpa using o3
    obtain ⟨-, a', c', hv, hO⟩ := ownsV o4
    subst hv
    have gf : w.grownBy w3 none := ⟨g3.os.trans S3.out.2.1.os, g3.tape.trans S3.out.2.1.tape, g3.output.trans S3.out.2.1.output, Nat.le_trans S3.out.2.1.size g3.size, fun i hi _ => (g3.block i (Nat.lt_of_lt_of_le hi S3.out.2.1.size) (fun e => by have := (S3.out.1.lt i e.symm).1; omega)).trans (S3.out.2.1.block i hi (by simp))⟩
    have FF : Hid (w.grownBy w3 none ∧ OwI B w3 a' 1 c' [x]) := ⟨gf, hO.mono hB⟩
    clear o3 o4 g3 n3 gf hO S3
    go_ret
    exact ⟨a', c', rfl, FF.out⟩
  · injection e with e1 e2 e3
    subst e1 e3
    have HO : Hid (OwI B w (some ⟨g, 0, none⟩) n c zs) := h
    have hr : RowI w 3 g c zs := ⟨cur, hb, by omega, by rw [hl]; simpa using ht, by omega⟩
    have HR : Hid (RowI w 3 g c zs) := hr
    have hcell := fun j (hj : j < n) => hr.cell j (by omega)
    clear h hb ht hr hs
    go_enter Tryz.func36, Tryz.ntmps36
    go_wp2_with fail
    go_loopw [5] (fun i wr => ∃ j : Nat, j ≤ n ∧ i = .int .i64 j ∧ wr = w ∧ Hid (srtV zs x = zs.take j ++ srtV (zs.drop j) x)) (fun i _ => n - (intOf i).toNat)
    case atStart => exact ⟨0, Nat.zero_le _, rfl, rfl, by show _ = _; simp⟩
    case round =>
      obtain ⟨j, hj, rfl, rfl, HI⟩ := hrel
      by_cases hlt : j < n
      · have hlt' : (j : Int) < n := by omega
        have hc := hcell j hlt
        have HY : Hid (∃ y, zs.getD j 0 = y) := ⟨_, rfl⟩
        obtain ⟨y, hy⟩ := HY.out
        rw [hy] at hc
        have EY : Hid (zs.getD j 0 = y) := hy
        clear hcell hy HY
        by_cases hx : y < x
        · have HI2 : Hid (srtV zs x = zs.take (j + 1) ++ srtV (zs.drop (j + 1)) x) := by
            show _ = _
            rw [HI.out, srtV_skip zs x j (by omega) (by rw [EY.out]; exact hx), List.take_succ_eq_append_getElem (by omega), List.append_assoc]
            simp [List.getD_eq_getElem?_getD, show j < zs.length by omega]
          clear HI HO HR
          go_wp2
          go_roundw
          case rel => exact ⟨j + 1, by omega, by go_num, trivial, HI2⟩
          case measure => simp [intOf]; omega
        · by_cases hxx : y = x
          · have FIN : Hid (srtV zs x = zs) := by show _ = _; rw [HI.out, srtV_same zs x j (by omega) (EY.out.trans hxx), List.take_append_drop]
            subst hxx
            clear HI HR
            go_wp2
            go_ret
            exact ⟨some ⟨g, 0, none⟩, c, (by rw [FIN.out, hl]; rfl), World.grownBy.refl _ _, (by rw [FIN.out, hl]; exact HO.out)⟩
          · have hyx : (y == x) = false := by simp [hxx]
            have FIN : Hid (srtV zs x = zs.take j ++ [x] ++ zs.drop j) := by show _ = _; rw [HI.out, srtV_stop zs x j (fun _ => by rw [EY.out]; omega)]; simp
            clear HI EY
            go_upto_region 7 with fail
            have hgl : g < wr.heap.size := HR.out.lt
            have RD1 : Hid (ReadsI wr (some ⟨g, 0, none⟩) j (zs.take j)) := by
              refine ⟨by rw [List.length_take]; omega, .inr ⟨g, 0, rfl, fun i hi => ?_⟩⟩
              have e := HR.out.cell i (by omega)
              rw [Nat.zero_add, e]
              simp [List.getD_eq_getElem?_getD, List.getElem?_take, hi]
            go_upto_region 8 with (at_builtin; go_must (refine wpList_appI rfl (.tmp 34) (.tmp 37) 24 rfl wr.heap.size i0 (.int .i64 0) Tryz.underlying24 hi hz0 hz1 hz2 rfl (.slice none 0 0) 0 [] rfl ⟨rfl, .inl ⟨rfl, rfl⟩⟩ (some ⟨g, 0, none⟩) j c (zs.take j) rfl RD1.out (by simp) (by omega) (Nat.le_refl _) ?_); intro v1 w1 o1 g1 n1)
            have S1 : Hid (w1.ownsRow wr.heap.size 3 1 v1 (0 + j) (valsI (zs.take j)) ∧ wr.grownBy w1 none ∧ wr.heap.size ≤ w1.heap.size ∧ RowI w1 3 g c zs) := ⟨by simpa using o1, g1, g1.size, HR.out.kept g1 (by simp [Value.ownBlock])⟩
            clear o1 g1 n1 RD1 HR
            have ga := World.grownBy_alloc w1 (.cells #[.int .i64 x] 3) none
            have S2 : Hid ((w1.alloc (.cells #[.int .i64 x] 3)).ownsRow wr.heap.size 3 1 v1 (0 + j) (valsI (zs.take j)) ∧ ReadsI (w1.alloc (.cells #[.int .i64 x] 3)) (some ⟨w1.heap.size, 0, none⟩) 1 [x] ∧ wr.grownBy (w1.alloc (.cells #[.int .i64 x] 3)) none ∧ wr.heap.size ≤ (w1.alloc (.cells #[.int .i64 x] 3)).heap.size ∧ RowI (w1.alloc (.cells #[.int .i64 x] 3)) 3 g c zs) := ⟨S1.out.1.alloc _, readsOne w1 x 3, grown_trans S1.out.2.1 ga, Nat.le_trans S1.out.2.2.1 ga.size, S1.out.2.2.2.kept ga (by simp)⟩
            clear ga S1
            go_upto_region 9 with (at_builtin; go_must (refine wpList_appI rfl (.tmp 39) (.tmp 41) 24 rfl wr.heap.size i0 (.int .i64 0) Tryz.underlying24 hi hz0 hz1 hz2 rfl v1 (0 + j) (zs.take j) rfl S2.out.1 (some ⟨w1.heap.size, 0, none⟩) 1 1 [x] rfl S2.out.2.1 (by simp) (by omega) S2.out.2.2.2.1 ?_); intro v2 w2 o2 g2 n2)
            have hne2 : some g ≠ v1.ownBlock := fun e => by have := (S2.out.1.lt g e.symm).1; omega
            have S3 : Hid (w2.ownsRow wr.heap.size 3 1 v2 (0 + j + 1) (valsI (zs.take j ++ [x])) ∧ wr.grownBy w2 none ∧ wr.heap.size ≤ w2.heap.size ∧ RowI w2 3 g c zs) := ⟨o2, ⟨g2.os.trans S2.out.2.2.1.os, g2.tape.trans S2.out.2.2.1.tape, g2.output.trans S2.out.2.2.1.output, Nat.le_trans S2.out.2.2.1.size g2.size, fun i hi _ => (g2.block i (Nat.lt_of_lt_of_le hi S2.out.2.2.1.size) (fun e => by have := (S2.out.1.lt i e.symm).1; omega)).trans (S2.out.2.2.1.block i hi (by simp))⟩, Nat.le_trans S2.out.2.2.2.1 g2.size, S2.out.2.2.2.2.kept g2 hne2⟩
            clear o2 g2 n2 S2 hne2
            have RDX : ∀ i, i < zs.length - j → w2.cell? ⟨g, j + i, none⟩ = some (.int .i64 ((zs.drop j).getD i 0)) := fun i hi => by
              have e := S3.out.2.2.2.cell (j + i) (by omega)
              rw [e]
              simp [List.getD_eq_getElem?_getD, List.getElem?_drop]
            have RD3 : Hid (ReadsI w2 (some ⟨g, j, none⟩) (n - j) (zs.drop j)) := ⟨by rw [List.length_drop]; omega, .inr ⟨g, j, rfl, fun i hi => RDX i (by omega)⟩⟩
            clear RDX
            go_wp2_with (at_builtin; go_must (refine wpList_appI rfl (.tmp 43) (.tmp 46) 24 rfl wr.heap.size i0 (.int .i64 0) Tryz.underlying24 hi hz0 hz1 hz2 rfl v2 (0 + j + 1) (zs.take j ++ [x]) rfl S3.out.1 (some ⟨g, j, none⟩) (n - j) (c - j) (zs.drop j) rfl RD3.out (by first | (simp; done) | (split <;> simp)) (by omega) S3.out.2.2.1 ?_); intro v3 w3 o3 g3 n3)
            all_goals (
              have hlen : 0 + j + 1 + (n - j) = (srtV zs x).length := by rw [FIN.out]; simp only [List.length_append, List.length_take, List.length_drop, List.length_singleton]; omega
              have hfin : zs.take j ++ [x] ++ zs.drop j = srtV zs x := FIN.out.symm
              rw [hfin, hlen] at o3
              obtain ⟨-, a', c', hv, hO⟩ := ownsV o3
              subst hv
              have gf : wr.grownBy w3 none := ⟨g3.os.trans S3.out.2.1.os, g3.tape.trans S3.out.2.1.tape, g3.output.trans S3.out.2.1.output, Nat.le_trans S3.out.2.1.size g3.size, fun i hi _ => (g3.block i (Nat.lt_of_lt_of_le hi S3.out.2.1.size) (fun e => by have := (S3.out.1.lt i e.symm).1; omega)).trans (S3.out.2.1.block i hi (by simp))⟩
              have FF : Hid (wr.grownBy w3 none ∧ OwI B w3 a' (srtV zs x).length c' (srtV zs x)) := ⟨gf, hO.mono hB⟩
              clear o3 g3 n3 hlen hfin gf hO S3 RD3
              go_ret
              exact ⟨a', c', rfl, FF.out⟩)
      · obtain rfl : j = n := by omega
        have FIN : Hid (srtV zs x = zs.take j ++ [x] ++ zs.drop j) := by show _ = _; rw [HI.out, srtV_stop zs x j (fun h => by omega)]; simp
        clear HI hcell
        go_upto_region 7 with fail
        have hgl : g < wr.heap.size := HR.out.lt
        have RD1 : Hid (ReadsI wr (some ⟨g, 0, none⟩) j (zs.take j)) := by
          refine ⟨by rw [List.length_take]; omega, .inr ⟨g, 0, rfl, fun i hi => ?_⟩⟩
          have e := HR.out.cell i (by omega)
          rw [Nat.zero_add, e]
          simp [List.getD_eq_getElem?_getD, List.getElem?_take, hi]
        go_upto_region 8 with (at_builtin; go_must (refine wpList_appI rfl (.tmp 34) (.tmp 37) 24 rfl wr.heap.size i0 (.int .i64 0) Tryz.underlying24 hi hz0 hz1 hz2 rfl (.slice none 0 0) 0 [] rfl ⟨rfl, .inl ⟨rfl, rfl⟩⟩ (some ⟨g, 0, none⟩) j c (zs.take j) rfl RD1.out (by simp) (by omega) (Nat.le_refl _) ?_); intro v1 w1 o1 g1 n1)
        have S1 : Hid (w1.ownsRow wr.heap.size 3 1 v1 (0 + j) (valsI (zs.take j)) ∧ wr.grownBy w1 none ∧ wr.heap.size ≤ w1.heap.size ∧ RowI w1 3 g c zs) := ⟨by simpa using o1, g1, g1.size, HR.out.kept g1 (by simp [Value.ownBlock])⟩
        clear o1 g1 n1 RD1 HR
        have ga := World.grownBy_alloc w1 (.cells #[.int .i64 x] 3) none
        have S2 : Hid ((w1.alloc (.cells #[.int .i64 x] 3)).ownsRow wr.heap.size 3 1 v1 (0 + j) (valsI (zs.take j)) ∧ ReadsI (w1.alloc (.cells #[.int .i64 x] 3)) (some ⟨w1.heap.size, 0, none⟩) 1 [x] ∧ wr.grownBy (w1.alloc (.cells #[.int .i64 x] 3)) none ∧ wr.heap.size ≤ (w1.alloc (.cells #[.int .i64 x] 3)).heap.size ∧ RowI (w1.alloc (.cells #[.int .i64 x] 3)) 3 g c zs) := ⟨S1.out.1.alloc _, readsOne w1 x 3, grown_trans S1.out.2.1 ga, Nat.le_trans S1.out.2.2.1 ga.size, S1.out.2.2.2.kept ga (by simp)⟩
        clear ga S1
        go_upto_region 9 with (at_builtin; go_must (refine wpList_appI rfl (.tmp 39) (.tmp 41) 24 rfl wr.heap.size i0 (.int .i64 0) Tryz.underlying24 hi hz0 hz1 hz2 rfl v1 (0 + j) (zs.take j) rfl S2.out.1 (some ⟨w1.heap.size, 0, none⟩) 1 1 [x] rfl S2.out.2.1 (by simp) (by omega) S2.out.2.2.2.1 ?_); intro v2 w2 o2 g2 n2)
        have hne2 : some g ≠ v1.ownBlock := fun e => by have := (S2.out.1.lt g e.symm).1; omega
        have S3 : Hid (w2.ownsRow wr.heap.size 3 1 v2 (0 + j + 1) (valsI (zs.take j ++ [x])) ∧ wr.grownBy w2 none ∧ wr.heap.size ≤ w2.heap.size ∧ RowI w2 3 g c zs) := ⟨o2, ⟨g2.os.trans S2.out.2.2.1.os, g2.tape.trans S2.out.2.2.1.tape, g2.output.trans S2.out.2.2.1.output, Nat.le_trans S2.out.2.2.1.size g2.size, fun i hi _ => (g2.block i (Nat.lt_of_lt_of_le hi S2.out.2.2.1.size) (fun e => by have := (S2.out.1.lt i e.symm).1; omega)).trans (S2.out.2.2.1.block i hi (by simp))⟩, Nat.le_trans S2.out.2.2.2.1 g2.size, S2.out.2.2.2.2.kept g2 hne2⟩
        clear o2 g2 n2 S2 hne2
        have RDX : ∀ i, i < zs.length - j → w2.cell? ⟨g, j + i, none⟩ = some (.int .i64 ((zs.drop j).getD i 0)) := fun i hi => by
          have e := S3.out.2.2.2.cell (j + i) (by omega)
          rw [e]
          simp [List.getD_eq_getElem?_getD, List.getElem?_drop]
        have RD3 : Hid (ReadsI w2 (if c = j then some ⟨g, 0, none⟩ else some ⟨g, j, none⟩) 0 (zs.drop j)) := ⟨by rw [List.length_drop]; omega, .inl rfl⟩
        clear RDX
        go_wp2_with (at_builtin; go_must (refine wpList_appI rfl (.tmp 43) (.tmp 46) 24 rfl wr.heap.size i0 (.int .i64 0) Tryz.underlying24 hi hz0 hz1 hz2 rfl v2 (0 + j + 1) (zs.take j ++ [x]) rfl S3.out.1 (if c = j then some ⟨g, 0, none⟩ else some ⟨g, j, none⟩) 0 (c - j) (zs.drop j) rfl RD3.out (by first | (simp; done) | (split <;> simp)) (by omega) S3.out.2.2.1 ?_); intro v3 w3 o3 g3 n3)
        all_goals (
          have hlen : 0 + j + 1 + 0 = (srtV zs x).length := by rw [FIN.out]; simp only [List.length_append, List.length_take, List.length_drop, List.length_singleton]; omega
          have hfin : zs.take j ++ [x] ++ zs.drop j = srtV zs x := FIN.out.symm
          rw [hfin, hlen] at o3
          obtain ⟨-, a', c', hv, hO⟩ := ownsV o3
          subst hv
          have gf : wr.grownBy w3 none := ⟨g3.os.trans S3.out.2.1.os, g3.tape.trans S3.out.2.1.tape, g3.output.trans S3.out.2.1.output, Nat.le_trans S3.out.2.1.size g3.size, fun i hi _ => (g3.block i (Nat.lt_of_lt_of_le hi S3.out.2.1.size) (fun e => by have := (S3.out.1.lt i e.symm).1; omega)).trans (S3.out.2.1.block i hi (by simp))⟩
          have FF : Hid (wr.grownBy w3 none ∧ OwI B w3 a' (srtV zs x).length c' (srtV zs x)) := ⟨gf, hO.mono hB⟩
          clear o3 g3 n3 hlen hfin gf hO S3 RD3
          go_ret
          exact ⟨a', c', rfl, FF.out⟩)

end Go.Proofs.YtpdkgmagjhibkaaGreatDoor.By

namespace Go.Proofs.YtpdkgmagjhibkaaGreatDoor.By
open Go.RowKit
set_option linter.unusedVariables false
set_option linter.unusedSimpArgs false

end Go.Proofs.YtpdkgmagjhibkaaGreatDoor.By

namespace Go.Proofs
open Go.Shelf
def Tryz.lays189_ren : Go.Shelf.Ren := ⟨fun | 189 => 37 | 125 => 65 | 257 => 64 | 128 => 102 | 129 => 103 | 294 => 93 | 295 => 94 | 296 => 95 | 297 => 96 | 298 => 97 | 299 => 98 | 216 => 99 | 300 => 100 | 301 => 101 | 328 => 118 | 329 => 119 | 330 => 120 | 331 => 121 | 332 => 122 | 215 => 123 | 343 => 137 | n => n, fun | 28 => 24 | 3 => 3 | 46 => 107 | 0 => 0 | 51 => 142 | 53 => 144 | 4 => 4 | 183 => 134 | 182 => 133 | 131 => 139 | 5 => 5 | 9 => 9 | 218 => 160 | 222 => 164 | 228 => 178 | 229 => 179 | n => n, fun | n => n⟩
theorem Tryz.lays189 : Go.Proofs.Lays.n189 Tryz.prog Tryz.lays189_ren := {
  mixed := by kernel_rfl
  f125 := Tryz.func65.trans (congrArg some (by kernel_rfl))
  f128 := Tryz.func102.trans (congrArg some (by kernel_rfl))
  f129 := Tryz.func103.trans (congrArg some (by kernel_rfl))
  f189 := Tryz.func37.trans (congrArg some (by kernel_rfl))
  f215 := Tryz.func123.trans (congrArg some (by kernel_rfl))
  f216 := Tryz.func99.trans (congrArg some (by kernel_rfl))
  f257 := Tryz.func64.trans (congrArg some (by kernel_rfl))
  f294 := Tryz.func93.trans (congrArg some (by kernel_rfl))
  f295 := Tryz.func94.trans (congrArg some (by kernel_rfl))
  f296 := Tryz.func95.trans (congrArg some (by kernel_rfl))
  f297 := Tryz.func96.trans (congrArg some (by kernel_rfl))
  f298 := Tryz.func97.trans (congrArg some (by kernel_rfl))
  f299 := Tryz.func98.trans (congrArg some (by kernel_rfl))
  f300 := Tryz.func100.trans (congrArg some (by kernel_rfl))
  f301 := Tryz.func101.trans (congrArg some (by kernel_rfl))
  f328 := Tryz.func118.trans (congrArg some (by kernel_rfl))
  f329 := Tryz.func119.trans (congrArg some (by kernel_rfl))
  f330 := Tryz.func120.trans (congrArg some (by kernel_rfl))
  f331 := Tryz.func121.trans (congrArg some (by kernel_rfl))
  f332 := Tryz.func122.trans (congrArg some (by kernel_rfl))
  f343 := Tryz.func137.trans (congrArg some (by kernel_rfl))
  t0 := Tryz.underlying0
  a0 := Tryz.isAgg0
  z0 := Tryz.sizeOf0
  v0 := Tryz.zeroValue0
  t3 := Tryz.underlying3
  a3 := Tryz.isAgg3
  z3 := Tryz.sizeOf3
  v3 := Tryz.zeroValue3
  t4 := Tryz.underlying4
  a4 := Tryz.isAgg4
  z4 := Tryz.sizeOf4
  v4 := Tryz.zeroValue4
  t5 := Tryz.underlying5
  a5 := Tryz.isAgg5
  z5 := Tryz.sizeOf5
  v5 := Tryz.zeroValue5
  t9 := Tryz.underlying9
  a9 := Tryz.isAgg9
  z9 := Tryz.sizeOf9
  v9 := Tryz.zeroValue9
  t28 := Tryz.underlying24
  a28 := Tryz.isAgg24
  z28 := Tryz.sizeOf24
  v28 := Tryz.zeroValue24
  t46 := Tryz.underlying107
  a46 := Tryz.isAgg107
  z46 := Tryz.sizeOf107
  v46 := Tryz.zeroValue107
  t51 := Tryz.underlying142
  a51 := Tryz.isAgg142
  z51 := Tryz.sizeOf142
  v51 := Tryz.zeroValue142
  t53 := Tryz.underlying144
  a53 := Tryz.isAgg144
  z53 := Tryz.sizeOf144
  v53 := Tryz.zeroValue144
  t131 := Tryz.underlying139
  a131 := Tryz.isAgg139
  z131 := Tryz.sizeOf139
  v131 := Tryz.zeroValue139
  t182 := Tryz.underlying133
  a182 := Tryz.isAgg133
  z182 := Tryz.sizeOf133
  v182 := Tryz.zeroValue133
  t183 := Tryz.underlying134
  a183 := Tryz.isAgg134
  z183 := Tryz.sizeOf134
  v183 := Tryz.zeroValue134
  t218 := Tryz.underlying160
  a218 := Tryz.isAgg160
  z218 := Tryz.sizeOf160
  v218 := Tryz.zeroValue160
  t222 := Tryz.underlying164
  a222 := Tryz.isAgg164
  z222 := Tryz.sizeOf164
  v222 := Tryz.zeroValue164
  t228 := Tryz.underlying178
  a228 := Tryz.isAgg178
  z228 := Tryz.sizeOf178
  v228 := Tryz.zeroValue178
  t229 := Tryz.underlying179
  a229 := Tryz.isAgg179
  z229 := Tryz.sizeOf179
  v229 := Tryz.zeroValue179 }
open Go.Sort Go.RowKit in
theorem Tryz.slices_Sort_int (blk off cap : Nat) (zs : List Int) (w : World) (hH : Holds (Value.int .i64) w blk off zs.toArray) (hblk : blk < w.heap.size) (hsz : zs.length < 4611686018427387904) :
    Calls Tryz.prog 37 #[.slice (some ⟨blk, off, none⟩) zs.length cap] w fun e w' =>
      e = .returned (.tuple #[]) ∧ ∃ n os, w' = grow (putRow (Value.int .i64) (Sort.ahead w n) blk off (zs.mergeSort fun x y => decide (x ≤ y)).toArray) os := Any.slices_Sort_int Tryz.lays189 blk off cap zs w hH hblk hsz
open Go.Sort Go.RowKit in
theorem Tryz.slices_Sort_int_none (p : Option Addr) (cap : Nat) (w : World) :
    Calls Tryz.prog 37 #[.slice p 0 cap] w fun e w' => e = .returned (.tuple #[]) ∧ w' = w := Any.slices_Sort_int_none Tryz.lays189 p cap w
def Tryz.laysNm220_ren : Go.Shelf.Ren := ⟨fun | 20 => 38 | n => n, fun | 22 => 24 | 3 => 3 | 4 => 4 | 0 => 0 | n => n, fun | n => n⟩
theorem Tryz.laysNm220 : Go.Proofs.Lays2.n20 Tryz.prog Tryz.laysNm220_ren := {
  mixed := by kernel_rfl
  f20 := Tryz.func38.trans (congrArg some (by kernel_rfl))
  t0 := Tryz.underlying0
  a0 := Tryz.isAgg0
  z0 := Tryz.sizeOf0
  v0 := Tryz.zeroValue0
  t3 := Tryz.underlying3
  a3 := Tryz.isAgg3
  z3 := Tryz.sizeOf3
  v3 := Tryz.zeroValue3
  t4 := Tryz.underlying4
  a4 := Tryz.isAgg4
  z4 := Tryz.sizeOf4
  v4 := Tryz.zeroValue4
  t22 := Tryz.underlying24
  a22 := Tryz.isAgg24
  z22 := Tryz.sizeOf24
  v22 := Tryz.zeroValue24
  i3 := by kernel_rfl }
open Go.Sort Go.RowKit in
theorem Tryz.slices_Compact_int (blk off cap : Nat) (zs : List Int) (w : World) (hH : Holds (Value.int .i64) w blk off zs.toArray) (hsz : zs.length ≤ 9223372036854775807) (hcap : zs.length ≤ cap) :
    Calls Tryz.prog 38 #[.slice (some ⟨blk, off, none⟩) zs.length cap] w fun e w' => e = .returned (.slice (some ⟨blk, off, none⟩) (Lib.compact zs).length cap) ∧ ∃ q, w' = putRow (Value.int .i64) (Sort.ahead w q) blk off (Lib.compact zs ++ List.replicate (zs.length - (Lib.compact zs).length) 0).toArray := Any.slices_Compact_int Tryz.laysNm220 blk off cap zs w hH hsz hcap
open Go.Sort Go.RowKit in
theorem Tryz.slices_Compact_int_empty (a : Option Addr) (cap : Nat) (w : World) :
    Calls Tryz.prog 38 #[.slice a 0 cap] w fun e w' => e = .returned (.slice a 0 cap) ∧ w' = w := Any.slices_Compact_int_empty Tryz.laysNm220 a cap w
end Go.Proofs

namespace Go.Proofs.YtpdkgmagjhibkaaGreatDoor.By
open Go.RowKit Go.Sort
set_option linter.unusedVariables false
set_option linter.unusedSimpArgs false

theorem OwI.blk {B n c g : Nat} {w : World} {zs : List Int} (h : OwI B w (some ⟨g, 0, none⟩) n c zs) : B ≤ g ∧ g < w.heap.size ∧ n ≤ c ∧ c ≤ maxLen ∧ ∃ cur, w.heap[g]? = some (.cells cur 3 (0, 0)) ∧ cur.size = c * 1 ∧ cur.toList.take zs.length = zs.map (Value.int .i64) := by
  obtain ⟨⟨h1, h2⟩, hl⟩ := h
  rcases h2 with ⟨e, _⟩ | ⟨g', cap, cur, e, hB, hb, hn, hm, hs, ht⟩
  · cases e
  · injection e with e1 e2 e3
    injection e1 with e1
    injection e1 with e1
    subst e1 e3
    exact ⟨hB, lt_of_block hb, hn, hm, cur, hb, hs, by rw [hl]; simpa [valsI] using ht⟩
theorem OwI.holds {B n c g : Nat} {w : World} {zs : List Int} (h : OwI B w (some ⟨g, 0, none⟩) n c zs) : Holds (Value.int .i64) w g 0 zs.toArray := by
  obtain ⟨_, _, _, _, cur, hb, _, ht⟩ := h.blk
  exact holds_of_blockI hb ht
theorem OwI.sorted {B n c g m : Nat} {w : World} {os : Array Obj} {zs ts : List Int} (h : OwI B w (some ⟨g, 0, none⟩) n c zs) (hl : ts.length = zs.length) :
    OwI B (grow (putRow (Value.int .i64) (Sort.ahead w m) g 0 ts.toArray) os) (some ⟨g, 0, none⟩) n c ts ∧ Below B w (grow (putRow (Value.int .i64) (Sort.ahead w m) g 0 ts.toArray) os) := by
  obtain ⟨hB, hlt, hn, hm, cur, hb, hs, ht⟩ := h.blk
  have h2 := h.2
  subst h2
  exact ⟨⟨ownsRow_sortedI hl hB hb hn hm hs, hl⟩, (Below.refl B w).grown (grownBy_sortedI _) (by omega) (fun k hk => by cases hk; exact hB)⟩
theorem OwI.compacted {B n c g q k : Nat} {w : World} {zs ys : List Int} (h : OwI B w (some ⟨g, 0, none⟩) n c zs) (hy : ys.length = n) (hk : k ≤ n) :
    OwI B (putRow (Value.int .i64) (Sort.ahead w q) g 0 ys.toArray) (some ⟨g, 0, none⟩) k c (ys.take k) ∧ Below B w (putRow (Value.int .i64) (Sort.ahead w q) g 0 ys.toArray) :=
  ⟨⟨Lib.ownsRow_putRow h.1 hy hk, by rw [List.length_take]; omega⟩, Lib.below_putRow (Below.refl B w) h.blk.1⟩

theorem eqI2 (a a' : Option Addr) (n c c' : Nat) (zs : List Int) (w : World) (h : ReadsI w a n zs) (h' : ReadsI w a' n zs) (hn : n ≤ 4194304) :
    Calls Tryz.prog 19 #[.slice a n c, .slice a' n c'] w fun e u => e = .returned (.bool true) ∧ w.grownBy u none :=
  (eqI a a' n c c' zs w h h' hn).mono fun e u ⟨he, hq⟩ => ⟨he, quiet hq⟩

theorem heldI2 (a : Option Addr) (n c : Nat) (k0 : Int) (w : World) (h : ReadsI w a n (marksI k0 n)) (hn : n ≤ 4194304) (hk0 : 0 ≤ k0) (hk1 : k0 ≤ 4194304) :
    Calls Tryz.prog 21 #[.slice a n c, .int .i64 k0] w fun e u => e = .returned (.int .i64 (k0 + n)) ∧ w.grownBy u none :=
  (heldI a n c k0 w h hn hk0 (by omega)).mono fun e u ⟨he, hq⟩ => ⟨he, quiet hq⟩

set_option maxHeartbeats 1000000 in
theorem markRow (g n cap : Nat) (zs : List Int) (k0 : Int) (w : World) (h : RowI w 3 g cap zs) (hl : zs.length = n) (hn : n ≤ 4194304) (hk0 : 0 ≤ k0) (hk1 : k0 ≤ 4194304) :
    Calls Tryz.prog 20 #[.slice (some ⟨g, 0, none⟩) n cap, .int .i64 k0] w fun e w' => e = .returned (.int .i64 (k0 + n)) ∧ w.grownBy w' (some g) ∧ RowI w' 3 g cap (marksI k0 n) := by
  go_enter Tryz.func20, Tryz.ntmps20
  go_wp2
  go_loopw [1, 5] (fun v i wr => ∃ k : Nat, k ≤ n ∧ i = .int .i64 k ∧ v = .int .i64 (k0 + k) ∧ w.grownBy wr (some g) ∧ Hid (RowI wr 3 g cap (halfI zs k0 k))) (fun _ i _ => n - (intOf i).toNat)
  case atStart => exact ⟨0, Nat.zero_le _, rfl, by simp, World.grownBy.refl _ _, by rw [halfI_zero]; exact h⟩
  case round =>
    obtain ⟨k, hk, rfl, rfl, hg, hrow⟩ := hrel
    by_cases hlt : k < n
    · have hco := hrow.out.cell k (by rw [halfI_len _ _ _ (by omega)]; omega)
      have hfr := hrow.out.free k
      have hst := hrow.out.store k (k0 + k)
      rw [halfI_step _ _ _ (by omega)] at hst
      have HR : Hid (RowI (wr.setCell ⟨g, k, none⟩ (.int .i64 (k0 + k))) 3 g cap (halfI zs k0 (k + 1))) := hst
      have HG : Hid (w.grownBy (wr.setCell ⟨g, k, none⟩ (.int .i64 (k0 + k))) (some g)) := grown_trans hg (grown_setCell _ _ _ _)
      obtain ⟨old, hold⟩ : ∃ x, wr.cell? ⟨g, k, none⟩ = some (.int .i64 x) := ⟨_, hco⟩
      clear hst hrow hco h
      go_wp2
      go_roundw
      case rel => exact ⟨k + 1, by omega, by go_num, by go_num, HG.out, HR⟩
      case measure => simp [intOf]; omega
    · obtain rfl : k = n := by omega
      have hR : Hid (RowI wr 3 g cap (marksI k0 k)) := by
        show RowI _ _ _ _ _
        have := hrow.out
        rw [← hl] at this ⊢
        rw [halfI_all] at this
        exact this
      clear hrow
      go_wp2
      go_ret
      exact ⟨rfl, hg, hR.out⟩

theorem markI2 (B n c : Nat) (a : Option Addr) (zs : List Int) (k0 : Int) (w : World) (h : OwI B w a n c zs) (hn : n ≤ 4194304) (hk0 : 0 ≤ k0) (hk1 : k0 ≤ 4194304) :
    Calls Tryz.prog 20 #[.slice a n c, .int .i64 k0] w fun e u => e = .returned (.int .i64 (k0 + n)) ∧ w.grownBy u (Value.slice a n c).ownBlock ∧ OwI B u a n c (marksI k0 n) := by
  obtain ⟨⟨h1, h2⟩, hl⟩ := h
  rcases h2 with ⟨e, h0⟩ | ⟨g, cap, cur, e, hB, hc, hn', hm, hs, ht⟩
  · injection e with e1 e2 e3
    subst e1 e2 e3
    refine (markI 0 0 0 none [] k0 w (OwnI.empty _ _ _ _) (by omega) hk0 (by omega)).mono fun e u ⟨he, hg, _⟩ => ⟨he, by simpa [tgt, Value.ownBlock] using hg, ?_⟩
    have : marksI k0 0 = [] := by simp [marksI]
    rw [this]; exact OwI.nil _ _
  · injection e with e1 e2 e3
    subst e1 e3
    have hr : RowI w 3 g c zs := ⟨cur, hc, by omega, by rw [hl]; simpa using ht, by omega⟩
    refine (markRow g n c zs k0 w hr hl hn hk0 hk1).mono fun e u ⟨he, hg, cur2, hb2, hs2, ht2, _⟩ => ⟨he, hg, ⟨by simp [valsI, marksI_len], .inr ⟨g, c, cur2, rfl, hB, hb2, hn', hm, by omega, ?_⟩⟩, marksI_len _ _⟩
    rw [marksI_len] at ht2
    simpa using ht2
end Go.Proofs.YtpdkgmagjhibkaaGreatDoor.By
