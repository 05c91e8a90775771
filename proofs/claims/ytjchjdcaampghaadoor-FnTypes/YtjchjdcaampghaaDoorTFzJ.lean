/-
  Several texts in one (TRdI, TFz). No statement is proved here.
-/
import Derived.Test.YtjchjdcaampghaaDoorTRdR
import Derived.Test.YtjchjdcaampghaaDoorTDd
import Derived.Test.YtjchjdcaampghaaDoorTDe
import Derived.Test.YtjchjdcaampghaaDoorTDf
import Derived.Test.YtjchjdcaampghaaDoorTFjJ
import Derived.Test.YtjchjdcaampghaaDoorTFsJ
import Derived.Test.YtjchjdcaampghaaDoorTSameJ
import Derived.Test.YtjchjdcaampghaaDoorTSe
import Derived.Test.YtjchjdcaampghaaDoorTRdUJ
import Derived.Test.YtjchjdcaampghaaDoorTByLJ
import Derived.Test.YtjchjdcaampghaaDoorTSize
namespace Go.Proofs.YtjchjdcaampghaaDoor.By
open Go.RowKit
set_option linter.unusedVariables false
set_option linter.unusedSimpArgs false

set_option maxRecDepth 8000 in
set_option maxHeartbeats 1000000 in
theorem implTyReadT (a : Option Addr) (N cap : Nat) (zs : List Int) (hz : Byt zs) (hN : N ≤ 1048576) (p : Int) (w : World) (h : Reads w a N zs) (hp : p ≤ 9223372036854775807) :
    Calls Tryd.prog 7 #[.slice a N cap, .int .i64 p] w fun e u => RdP w (readV zs p) e u := by
  have gA := World.grownBy_alloc w (.cells #[.int .i64 0, .int .i64 0, .slice none 0 0] 25) none
  have gB := World.grownBy_alloc (w.alloc (.cells #[.int .i64 0, .int .i64 0, .slice none 0 0] 25)) (.cells #[.slice a N cap, .int .i64 p, .int .i64 60] 45) none
  have g2 := grown_trans gA gB
  have bA := (gB.block _ (by simp) (by simp)).trans (heap_alloc_new w (.cells #[.int .i64 0, .int .i64 0, .slice none 0 0] 25))
  have bB := heap_alloc_new (w.alloc (.cells #[.int .i64 0, .int .i64 0, .slice none 0 0] 25)) (.cells #[.slice a N cap, .int .i64 p, .int .i64 60] 45)
  have esz : (w.alloc (.cells #[.int .i64 0, .int .i64 0, .slice none 0 0] 25)).heap.size = w.heap.size + 1 := by simp
  have esz2 : ((w.alloc (.cells #[.int .i64 0, .int .i64 0, .slice none 0 0] 25)).alloc (.cells #[.slice a N cap, .int .i64 p, .int .i64 60] 45)).heap.size = w.heap.size + 2 := by simp
  rw [esz] at bB
  have hq : 0 < N → ∀ b off, a = some (⟨b, off, none⟩ : Addr) → b ≠ w.heap.size + 1 := by
    intro h0 b off hab
    rcases h.2 with h1 | ⟨b', off', hab', hc⟩
    · omega
    · rw [hab] at hab'
      injection hab' with e1
      injection e1 with e1 e2 e3
      have hlt : b' < w.heap.size := block_lt_of_cell (hc 0 h0)
      omega
  have CC : Hid _ := readT (w.heap.size + 1) a N cap zs hz hN hq 10 60 p _ (Nat.le_refl _) (Nat.le_refl _) bB (fun u hu => h.none (grown_into g2 hu (by omega))) hp
  have L0 : Hid (w.grownBy _ none ∧ _ = some (Obj.cells #[.int .i64 0, .int .i64 0, .slice none 0 0] 25) ∧ _ = w.heap.size + 2) := ⟨g2, bA, esz2⟩
  have ER := rI_read zs p
  clear gA gB g2 bA bB esz esz2 h hq
  go_enter Tryd.func7, Tryd.ntmps7
  go_wp2_with fail
  refine Calls.mono CC.out ?_
  rintro e u ⟨k, n, f, a2, l2, c2, bd, x, rm, ok, he, hg, hb, hnew, hok, hno⟩
  subst he
  obtain ⟨g2, b4, sz⟩ := L0.out
  have LV : Hid (w.grownBy u none ∧ u.heap[w.heap.size + 1]? = some (Obj.cells #[.slice a N cap, .int .i64 x, .int .i64 rm] 45) ∧ u.heap[w.heap.size]? = some (Obj.cells #[.int .i64 0, .int .i64 0, .slice none 0 0] 25) ∧ SlO u 25 a2 l2 c2 f bd ∧ bd.Nodup ∧ (∀ y ∈ bd, w.heap.size + 1 < y)) := ⟨grown_into g2 hg (by omega), hb, (hg.block _ (lt_of_block b4) (by simp)).trans b4, hnew.1, hnew.2.1, fun y hy => by have := hnew.2.2 y hy; omega⟩
  clear L0 g2 b4 sz hg hb hnew CC
  generalize ep : w.heap.size = q4 at *
  simp only []
  obtain ⟨g1, br, b4, acc, nd, gt⟩ := LV.out
  have lt4 := lt_of_block b4
  have ltq := lt_of_block br
  cases ok with
  | false =>
    have EN : Hid (readV zs p = (0, 0, .nil, -1)) := by show _ = _; rw [ER, hno rfl]
    obtain ⟨⟨z0, z1, z2⟩, h0, h3, h4⟩ := three b4
    obtain ⟨d1, k1⟩ := fill3 (.int .i64 0) (.int .i64 0) (.slice none 0 0) b4
    have ga := World.grownBy_alloc (((u.setCell ⟨q4, 0, none⟩ (.int .i64 0)).setCell ⟨q4, 1, none⟩ (.int .i64 0)).setCell ⟨q4, 2, none⟩ (.slice none 0 0)) (.cells #[.int .i64 k, .int .i64 n, .slice a2 l2 c2] 25) none
    have FQ : Hid (_ ∧ w.grownBy _ none) := ⟨(ga.block _ (lt_of_block d1) (by simp)).trans d1, grown_trans (grown_into g1 k1 (by omega)) ga⟩
    clear ga d1 k1 LV g1 br b4 acc nd gt hok hno ER
    go_wp2
    (try simp only [Exit.inBlock, Exit.then])
    refine bodyPost_ret (results_cell2 (P := Tryd.prog) Tryd.results7 _ _ q4 _ _ _ _ rfl FQ.out.1 Tryd.underlying25 rfl (by kernel_rfl)) rfl ?_
    rw [EN.out]
    exact ⟨none, 0, 0, [], rfl, FQ.out.2, New.nil _ _ _⟩
  | true =>
    obtain ⟨m, rfl, hm, hT⟩ := hok rfl
    have EN : Hid (readV zs p = (k, n, f, x)) := by show _ = _; rw [ER, hT]
    have ga := World.grownBy_alloc u (.cells #[.int .i64 k, .int .i64 n, .slice a2 l2 c2] 25) none
    have gd := grown_drew ga
    have gd2 : (u.alloc (.cells #[.int .i64 k, .int .i64 n, .slice a2 l2 c2] 25)).grownBy (u.alloc (.cells #[.int .i64 k, .int .i64 n, .slice a2 l2 c2] 25)).drew none := grown_drew (World.grownBy.refl _ none)
    have L1 : Hid (w.grownBy (u.alloc (.cells #[.int .i64 k, .int .i64 n, .slice a2 l2 c2] 25)).drew none ∧ (u.alloc (.cells #[.int .i64 k, .int .i64 n, .slice a2 l2 c2] 25)).drew.heap[q4 + 1]? = some (Obj.cells #[.slice a N cap, .int .i64 x, .int .i64 (m : Int)] 45) ∧ (u.alloc (.cells #[.int .i64 k, .int .i64 n, .slice a2 l2 c2] 25)).drew.heap[q4]? = some (Obj.cells #[.int .i64 0, .int .i64 0, .slice none 0 0] 25) ∧ (u.alloc (.cells #[.int .i64 k, .int .i64 n, .slice a2 l2 c2] 25)).drew.heap[u.heap.size]? = some (Obj.cells #[.int .i64 k, .int .i64 n, .slice a2 l2 c2] 25) ∧ SlO (u.alloc (.cells #[.int .i64 k, .int .i64 n, .slice a2 l2 c2] 25)).drew 25 a2 l2 c2 f bd) := ⟨grown_trans g1 gd, (gd.block _ ltq (by simp)).trans br, (gd.block _ lt4 (by simp)).trans b4, (gd2.block _ (by simp) (by simp)).trans (heap_alloc_new u _), acc.old gd⟩
    have NG : Hid (bd.Nodup ∧ ∀ y ∈ bd, q4 + 1 < y) := ⟨nd, gt⟩
    have n4 : q4 ≠ u.heap.size := by omega
    clear ga gd gd2 LV g1 br b4 acc nd gt hok hno ER
    go_wp2
    refine wp_region_held_drew (S := (fun u0 => Tri u.heap.size 0 (.int .i64 k) (.int .i64 n) (.slice a2 l2 c2) u0 ∧ Tri (q4 + 1) 0 (.slice a N cap) (.int .i64 x) (.int .i64 (m : Int)) u0)) (by kernel_rfl) ⟨(three L1.out.2.2.2.1).1, (three L1.out.2.1).1⟩ (fun hH => ?_)
    generalize (World.drew _) = u0 at *
    simp only [List.size_toArray, List.length_cons, List.length_nil, Nat.reduceAdd, Array.replicate, List.replicate]
    refine wpAnyH_take (i := 0) (v := ?_) rfl (by kernel_rfl) (by kernel_rfl) (by kernel_rfl) (fun _ _ _ h => h) (Or.inl ⟨by rfl, ?_⟩) hH ?_
    rotate_left
    · (intro v hS; obtain ⟨⟨s0, s1, s2⟩, ⟨r0, r1, r2⟩⟩ := hS; go_simp; try with_reducible rfl)
    simp only [Act.put, List.setIfInBounds_toArray, List.set_cons_zero, List.set_cons_succ, List.getElem_toArray, List.getElem_cons_succ, List.getElem_cons_zero]
    refine wpAnyH_take (i := 1) (v := ?_) rfl (by kernel_rfl) (by kernel_rfl) (by kernel_rfl) (fun _ _ _ h => h) (Or.inl ⟨by rfl, ?_⟩) hH ?_
    rotate_left
    · (intro v hS; obtain ⟨⟨s0, s1, s2⟩, ⟨r0, r1, r2⟩⟩ := hS; go_simp; try with_reducible rfl)
    simp only [Act.put, List.setIfInBounds_toArray, List.set_cons_zero, List.set_cons_succ, List.getElem_toArray, List.getElem_cons_succ, List.getElem_cons_zero]
    refine wpAnyH_take (i := 2) (v := ?_) rfl (by kernel_rfl) (by kernel_rfl) (by kernel_rfl) (fun _ _ _ h => h) (Or.inl ⟨by rfl, ?_⟩) hH ?_
    rotate_left
    · (intro v hS; obtain ⟨⟨s0, s1, s2⟩, ⟨r0, r1, r2⟩⟩ := hS; go_simp; try with_reducible rfl)
    simp only [Act.put, List.setIfInBounds_toArray, List.set_cons_zero, List.set_cons_succ, List.getElem_toArray, List.getElem_cons_succ, List.getElem_cons_zero]
    obtain ⟨g1, br, b4, b7, acc⟩ := L1.out
    obtain ⟨d2, k2⟩ := fill3 (.int .i64 k) (.int .i64 n) (.slice a2 l2 c2) b4
    obtain ⟨⟨y0, y1, y2⟩, f0, f1, f2⟩ := three b4
    have FQ : Hid (_ ∧ w.grownBy _ none ∧ New w _ 25 a2 l2 c2 f bd ∧ _ ∧ _) := ⟨d2, grown_into g1 k2 (by omega), ⟨acc.kept k2 (fun y hy => by have := NG.out.2 y hy; simp; omega), NG.out.1, fun y hy => by have := NG.out.2 y hy; omega⟩, (k2.block _ (lt_of_block b7) (by simp; omega)).trans b7, (k2.block _ (lt_of_block br) (by simp)).trans br⟩
    clear d2 k2
    refine wpAnyH_ready (rs := [3]) (by kernel_rfl) (by simp) ?_
    refine AllReadyH.cons rfl (fun K hK => ?_) AllReadyH.nil
    go_simp
    refine hK.out _ _ ⟨(three FQ.out.2.2.2.1).1, (three FQ.out.2.2.2.2).1⟩ (fun hH2 => ?_)
    clear hK K hH
    have hH := hH2
    clear hH2 y0 y1 y2 f0 f1 f2
    simp only [Act.put, List.setIfInBounds_toArray, List.set_cons_zero, List.set_cons_succ, List.getElem_toArray, List.getElem_cons_succ, List.getElem_cons_zero]
    refine wpAnyH_take (i := 4) (v := ?_) rfl (by kernel_rfl) (by kernel_rfl) (by kernel_rfl) (fun _ _ _ h => h) (Or.inl ⟨by rfl, ?_⟩) hH ?_
    rotate_left
    · (intro v hS; go_simp; try with_reducible rfl)
    simp only [Act.put, List.setIfInBounds_toArray, List.set_cons_zero, List.set_cons_succ, List.getElem_toArray, List.getElem_cons_succ, List.getElem_cons_zero]
    refine wpAnyH_done (by kernel_rfl) ?_ _
    clear hH
    go_wp2
    (try simp only [Exit.inBlock, Exit.then])
    refine bodyPost_ret (results_cell2 (P := Tryd.prog) Tryd.results7 _ _ q4 _ _ _ _ rfl FQ.out.1 Tryd.underlying25 rfl (by kernel_rfl)) rfl ?_
    rw [EN.out]
    exact ⟨a2, l2, c2, bd, rfl, FQ.out.2.1, FQ.out.2.2.1⟩
end Go.Proofs.YtjchjdcaampghaaDoor.By

