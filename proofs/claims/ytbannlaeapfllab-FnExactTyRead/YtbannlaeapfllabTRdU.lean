/-
  The specification's TyRead, by its contract. No statement is proved here.
-/
import Derived.Test.YtbannlaeapfllabTRdS
import Derived.Test.YtbannlaeapfllabTOk
namespace Go.Proofs.Ytbannlaeapfllab.By
open Go.RowKit
set_option linter.unusedVariables false
set_option linter.unusedSimpArgs false

set_option maxRecDepth 8000 in
set_option maxHeartbeats 1600000 in
theorem specTyReadT (a : Option Addr) (N cap : Nat) (zs : List Int) (hz : Byt zs) (hN : N ≤ 1048576) (p : Int) (w : World) (h : Reads w a N zs) (hp : p ≤ 9223372036854775807) :
    Calls Try.prog 31 #[.slice a N cap, .int .i64 p] w fun e u => RdP w (readV zs p) e u := by
  have g0 : w.grownBy (w.alloc (.cells #[.int .i64 0, .int .i64 0, .slice none 0 0] 29)) none := World.grownBy_alloc _ _ _
  have L0 : Hid (w.grownBy (w.alloc (.cells #[.int .i64 0, .int .i64 0, .slice none 0 0] 29)) none ∧ (w.alloc (.cells #[.int .i64 0, .int .i64 0, .slice none 0 0] 29)).heap[w.heap.size]? = some (Obj.cells #[.int .i64 0, .int .i64 0, .slice none 0 0] 29) ∧ (w.alloc (.cells #[.int .i64 0, .int .i64 0, .slice none 0 0] 29)).heap.size = w.heap.size + 1) := ⟨g0, heap_alloc_new w _, by simp⟩
  have CC : Hid _ := l3readT a N cap zs hz hN 10 p _ (Nat.le_refl _) (h.none g0) hp
  clear h g0
  go_enter Try.func31, Try.ntmps31
  go_wp2_with fail
  refine Calls.mono CC.out ?_
  rintro e u ⟨a2, l2, c2, bd, he, hg, hnew⟩
  subst he
  obtain ⟨g0, b4, sz⟩ := L0.out
  have LV : Hid (w.grownBy u none ∧ u.heap[w.heap.size]? = some (Obj.cells #[.int .i64 0, .int .i64 0, .slice none 0 0] 29) ∧ SlO u 29 a2 l2 c2 (rdR zs 10 p).2.2.1 bd ∧ bd.Nodup ∧ (∀ y ∈ bd, w.heap.size < y)) := ⟨grown_trans g0 hg, (hg.block _ (lt_of_block b4) (by simp)).trans b4, hnew.1, hnew.2.1, fun y hy => by have := hnew.2.2 y hy; omega⟩
  clear CC hg hnew g0 b4 sz L0
  have zero : ∀ u, w.grownBy u none → u.heap[w.heap.size]? = some (Obj.cells #[.int .i64 0, .int .i64 0, .slice none 0 0] 29) → _ ∧ w.grownBy (((u.setCell ⟨w.heap.size, 0, none⟩ (.int .i64 0)).setCell ⟨w.heap.size, 1, none⟩ (.int .i64 0)).setCell ⟨w.heap.size, 2, none⟩ (.slice none 0 0)) none := fun u hu hp => ⟨(fill3 (.int .i64 0) (.int .i64 0) (.slice none 0 0) hp).1, grown_into hu (fill3 (.int .i64 0) (.int .i64 0) (.slice none 0 0) hp).2 (Nat.le_refl _)⟩
  have ZR : Hid _ := zero
  clear zero
  generalize e4 : w.heap.size = q4 at *
  have PQ : Hid (w.heap.size = q4) := e4
  clear e4
  cases hT : rdT zs 10 p with
  | none =>
    have eR : rdR zs 10 p = (0, 0, .nil, -1) := by unfold rdR; rw [hT]
    have EN : Hid (readV zs p = (0, 0, .nil, -1)) := by show _ = _; unfold readV; rw [hT]
    rw [eR]
    have ga := World.grownBy_alloc u (.cells #[.int .i64 0, .int .i64 0, .slice a2 l2 c2] 29) none
    have b4 := (ga.block _ (lt_of_block LV.out.2.1) (by simp)).trans LV.out.2.1
    have FQ : Hid _ := ZR.out _ (grown_trans LV.out.1 ga) b4
    obtain ⟨⟨z0, z1, z2⟩, h0, h3, h4⟩ := three b4
    clear hT eR ga ZR LV b4
    simp only []
    go_wp2
    (try simp only [Exit.inBlock, Exit.then])
    refine bodyPost_ret (results_cell2 (P := Try.prog) Try.results31 _ _ q4 _ _ _ _ rfl FQ.out.1 Try.underlying29 rfl (by kernel_rfl)) rfl ?_
    rw [EN.out]
    exact ⟨none, 0, 0, [], rfl, FQ.out.2, New.nil _ _ _⟩
  | some y =>
    have eR : rdR zs 10 p = y := by unfold rdR; rw [hT]
    have hyb := rdT_bounds hz 10 p y hT
    have ER : Hid (readV zs p = if okT y.1 y.2.1 y.2.2.1 = true then y else (0, 0, .nil, -1)) := by show _ = _; unfold readV; rw [hT]
    rw [eR] at LV ⊢
    obtain ⟨rk, rn, rd, x'⟩ := y
    simp only [] at LV ER hyb ⊢
    obtain ⟨hy0, hy1⟩ := hyb
    have hyn : ¬ x' < 0 := by omega
    have ga := World.grownBy_alloc u (.cells #[.int .i64 rk, .int .i64 rn, .slice a2 l2 c2] 29) none
    have bt := heap_alloc_new u (.cells #[.int .i64 rk, .int .i64 rn, .slice a2 l2 c2] 29)
    have b4 := (ga.block _ (lt_of_block LV.out.2.1) (by simp)).trans LV.out.2.1
    have LA : Hid (w.grownBy (u.alloc (.cells #[.int .i64 rk, .int .i64 rn, .slice a2 l2 c2] 29)) none ∧ (u.alloc (.cells #[.int .i64 rk, .int .i64 rn, .slice a2 l2 c2] 29)).heap[q4]? = some (Obj.cells #[.int .i64 0, .int .i64 0, .slice none 0 0] 29) ∧ (u.alloc (.cells #[.int .i64 rk, .int .i64 rn, .slice a2 l2 c2] 29)).heap[u.heap.size]? = some (Obj.cells #[.int .i64 rk, .int .i64 rn, .slice a2 l2 c2] 29) ∧ SlO (u.alloc (.cells #[.int .i64 rk, .int .i64 rn, .slice a2 l2 c2] 29)) 29 a2 l2 c2 rd bd ∧ bd.Nodup ∧ (∀ y ∈ bd, q4 < y)) := ⟨grown_trans LV.out.1 ga, b4, bt, LV.out.2.2.1.old ga, LV.out.2.2.2.1, LV.out.2.2.2.2⟩
    have CC : Hid _ := specTyOkT rd rk rn a2 l2 c2 _ LA.out.2.2.2.1.reads
    obtain ⟨⟨z0, z1, z2⟩, h0, h3, h4⟩ := three bt
    clear hT eR ga bt b4 LV
    go_wp2_with fail
    refine Calls.mono CC.out ?_
    rintro e u2 ⟨rfl, hg⟩
    obtain ⟨g1, b4, bt, acc, nd, gt⟩ := LA.out
    have LB : Hid (w.grownBy u2 none ∧ u2.heap[q4]? = some (Obj.cells #[.int .i64 0, .int .i64 0, .slice none 0 0] 29) ∧ u2.heap[u.heap.size]? = some (Obj.cells #[.int .i64 rk, .int .i64 rn, .slice a2 l2 c2] 29) ∧ SlO u2 29 a2 l2 c2 rd bd ∧ bd.Nodup ∧ (∀ y ∈ bd, q4 < y)) := ⟨grown_trans g1 hg, (hg.block _ (lt_of_block b4) (by simp)).trans b4, (hg.block _ (lt_of_block bt) (by simp)).trans bt, acc.old hg, nd, gt⟩
    clear hg CC LA g1 b4 bt acc nd gt z0 z1 z2 h0 h3 h4
    obtain ⟨⟨z0, z1, z2⟩, h0, h3, h4⟩ := three LB.out.2.1
    obtain ⟨⟨y0, y1, y2⟩, f0, f1, f2⟩ := three LB.out.2.2.1
    simp only []
    cases hb : okT rk rn rd with
    | false =>
      have EN : Hid (readV zs p = (0, 0, .nil, -1)) := by show _ = _; rw [ER.out, hb]; rfl
      have FQ : Hid _ := ZR.out u2 LB.out.1 LB.out.2.1
      clear hb ER ZR LB
      go_wp2
      (try simp only [Exit.inBlock, Exit.then])
      refine bodyPost_ret (results_cell2 (P := Try.prog) Try.results31 _ _ q4 _ _ _ _ rfl FQ.out.1 Try.underlying29 rfl (by kernel_rfl)) rfl ?_
      rw [EN.out]
      exact ⟨none, 0, 0, [], rfl, FQ.out.2, New.nil _ _ _⟩
    | true =>
      have EN : Hid (readV zs p = (rk, rn, rd, x')) := by show _ = _; rw [ER.out, hb]; rfl
      obtain ⟨d1, k1⟩ := fill3 (.int .i64 rk) (.int .i64 rn) (.slice a2 l2 c2) LB.out.2.1
      have FQ : Hid (_ ∧ w.grownBy _ none ∧ New w _ 29 a2 l2 c2 rd bd) := ⟨d1, grown_into LB.out.1 k1 (by have := PQ.out; omega), LB.out.2.2.2.1.kept k1 (fun y hy => by have := LB.out.2.2.2.2.2 y hy; simp; omega), LB.out.2.2.2.2.1, fun y hy => by have := LB.out.2.2.2.2.2 y hy; have := PQ.out; omega⟩
      clear hb ER ZR LB d1 k1
      go_wp2
      (try simp only [Exit.inBlock, Exit.then])
      refine bodyPost_ret (results_cell2 (P := Try.prog) Try.results31 _ _ q4 _ _ _ _ rfl FQ.out.1 Try.underlying29 rfl (by kernel_rfl)) rfl ?_
      rw [EN.out]
      exact ⟨a2, l2, c2, bd, rfl, FQ.out.2.1, FQ.out.2.2⟩
end Go.Proofs.Ytbannlaeapfllab.By
