/-
  Trees of values, copied. No statement is proved here.
-/
import Derived.Test.YtpmndefmibnaeaaDoorVB
import Derived.Deep.RegionHeld
namespace Go.Proofs.YtpmndefmibnaeaaDoor.By
open Go.RowKit
set_option linter.unusedVariables false
set_option linter.unusedSimpArgs false

def ToS (m : Nat) : Prop := ∀ (xs : V) (a : Option Addr) (l c : Nat) (w : World), xs.size ≤ m → SlVal w a l xs → xs.size ≤ 1048576 →
  Calls Tryd.prog 9 #[.slice a l c] w fun e u => ∃ a' c', e = .returned (.slice a' l c') ∧ l ≤ c' ∧ w.grownBy u none ∧ SlVal (hideZ u w.heap.size) a' l xs
def ToT (m : Nat) : Prop := ∀ (x : RVal) (a1 : Option Addr) (l1 c1 : Nat) (a2 : Option Addr) (l2 c2 : Nat) (w : World), x.list.size ≤ m → RdVal w x a1 l1 a2 l2 → szVal x ≤ 1048576 →
  Calls Tryd.prog 8 #[.agg #[.int .i64 x.k, .int .i64 x.n, .slice a1 l1 c1, .slice a2 l2 c2]] w fun e u => ∃ t1 w1 t2 w2, e = .returned (.agg #[.int .i64 x.k, .int .i64 x.n, .slice t1 l1 w1, .slice t2 l2 w2]) ∧ l1 ≤ w1 ∧ l2 ≤ w2 ∧ w.grownBy u none ∧ RdVal (hideZ u w.heap.size) x t1 l1 t2 l2

theorem BlkN.putsVal {w : World} {t : TypeId} {g k : Nat} (h : BlkN w t g k) (j : Nat) (hj : j + 3 < k) (v0 v1 v2 v3 : Value) : BlkN ((((w.setCell ⟨g, j, none⟩ (v0)).setCell ⟨g, j + 1, none⟩ (v1)).setCell ⟨g, j + 2, none⟩ (v2)).setCell ⟨g, j + 3, none⟩ (v3)) t g k ∧ w.grownBy ((((w.setCell ⟨g, j, none⟩ (v0)).setCell ⟨g, j + 1, none⟩ (v1)).setCell ⟨g, j + 2, none⟩ (v2)).setCell ⟨g, j + 3, none⟩ (v3)) (some g) ∧ (((((w.setCell ⟨g, j, none⟩ (v0)).setCell ⟨g, j + 1, none⟩ (v1)).setCell ⟨g, j + 2, none⟩ (v2)).setCell ⟨g, j + 3, none⟩ (v3)).cell? ⟨g, j, none⟩ = some v0 ∧ ((((w.setCell ⟨g, j, none⟩ (v0)).setCell ⟨g, j + 1, none⟩ (v1)).setCell ⟨g, j + 2, none⟩ (v2)).setCell ⟨g, j + 3, none⟩ (v3)).cell? ⟨g, j + 1, none⟩ = some v1 ∧ ((((w.setCell ⟨g, j, none⟩ (v0)).setCell ⟨g, j + 1, none⟩ (v1)).setCell ⟨g, j + 2, none⟩ (v2)).setCell ⟨g, j + 3, none⟩ (v3)).cell? ⟨g, j + 2, none⟩ = some v2 ∧ ((((w.setCell ⟨g, j, none⟩ (v0)).setCell ⟨g, j + 1, none⟩ (v1)).setCell ⟨g, j + 2, none⟩ (v2)).setCell ⟨g, j + 3, none⟩ (v3)).cell? ⟨g, j + 3, none⟩ = some v3) ∧ ∀ i, i < j → ((((w.setCell ⟨g, j, none⟩ (v0)).setCell ⟨g, j + 1, none⟩ (v1)).setCell ⟨g, j + 2, none⟩ (v2)).setCell ⟨g, j + 3, none⟩ (v3)).cell? ⟨g, i, none⟩ = w.cell? ⟨g, i, none⟩ := by
  obtain ⟨h0, k0, c0, o0⟩ := h.set (j) (by omega) v0
  obtain ⟨h1, k1, c1, o1⟩ := h0.set (j + 1) (by omega) v1
  obtain ⟨h2, k2, c2, o2⟩ := h1.set (j + 2) (by omega) v2
  obtain ⟨h3, k3, c3, o3⟩ := h2.set (j + 3) (by omega) v3
  exact ⟨h3, grown_trans (grown_trans (grown_trans (k0) k1) k2) k3, ⟨(o3 j (by omega)).trans ((o2 j (by omega)).trans ((o1 j (by omega)).trans (c0))), (o3 (j + 1) (by omega)).trans ((o2 (j + 1) (by omega)).trans (c1)), (o3 (j + 2) (by omega)).trans (c2), c3⟩, fun i hi => (o3 i (by omega)).trans ((o2 i (by omega)).trans ((o1 i (by omega)).trans (o0 i (by omega))))⟩

theorem infoSVal : (Tryd.prog.info? 31).map (fun i => (i.zero, i.size, i.bytes)) = some (some (.agg #[.int .i64 0, .int .i64 0, .slice none 0 0, .slice none 0 0]), 4, 64) := by kernel_rfl

theorem makeSVal (n : Nat) (hn : n ≤ 4194304) (w : World) : (Instr.makeSlice 29 (.int .i64 (n : Int)) (.int .i64 (n : Int))).run Tryd.prog w = .ok (.slice (some ⟨w.heap.size, 0, none⟩) n n) (w.alloc (.cells (madeCells #[.int .i64 0, .int .i64 0, .slice none 0 0, .slice none 0 0] (n * 4)) 31)) := by
  obtain ⟨i0, hi, hz0, hz1, hz2⟩ := info_parts infoSVal
  have h := run_make (P := Tryd.prog) (w := w) 29 31 i0 _ Tryd.underlying29 hi hz0 .i64 .i64 (n : Int) (n : Int) (by omega) (by omega) (by rw [hz2]; omega) (by omega)
  rw [hz1] at h
  simpa [Value.cells] using h
theorem makeSVal0 (w : World) : (Instr.makeSlice 29 (.int .i64 0) (.int .i64 0)).run Tryd.prog w = .ok (.slice (some ⟨w.heap.size, 0, none⟩) 0 0) (w.alloc (.cells (madeCells #[.int .i64 0, .int .i64 0, .slice none 0 0, .slice none 0 0] 0) 31)) := makeSVal 0 (by omega) w
theorem madeSVal_blk (w : World) (n : Nat) : BlkN (w.alloc (.cells (madeCells #[.int .i64 0, .int .i64 0, .slice none 0 0, .slice none 0 0] (n * 4)) 31)) 31 w.heap.size (n * 4) := ⟨_, heap_alloc_new w _, by simp [madeCells]⟩

set_option maxRecDepth 8000 in
set_option maxHeartbeats 8000000 in
theorem toT_of (m : Nat) (hS : ToS m) : ToT m := by
  intro x a1 l1 c1 a2 l2 c2 w hm h hs
  have HSS : Hid (ToS m) := hS
  clear hS
  have HS : Hid (szVal x ≤ 1048576) := hs
  have HY : Hid (RdVal w x a1 l1 a2 l2) := h
  have HN : Hid (∀ u, w.grownBy u none → RdVal u x a1 l1 a2 l2) := fun u hu => h.none hu
  clear h hs
  obtain ⟨b0, b1, b2, bsz⟩ := alloc3_blocks w (.cells #[.int .i64 x.k, .int .i64 x.n, .slice a1 l1 c1, .slice a2 l2 c2] 25) (.cells #[.int .i64 0, .int .i64 0, .slice none 0 0, .slice none 0 0] 31) (.cells #[.int .i64 x.k, .int .i64 x.n, .slice none 0 0, .slice none 0 0] 31)
  have g0 := grown_alloc (grown_alloc (grown_alloc (World.grownBy.refl w none) (.cells #[.int .i64 x.k, .int .i64 x.n, .slice a1 l1 c1, .slice a2 l2 c2] 25)) (.cells #[.int .i64 0, .int .i64 0, .slice none 0 0, .slice none 0 0] 31)) (.cells #[.int .i64 x.k, .int .i64 x.n, .slice none 0 0, .slice none 0 0] 31)
  have L0 : Hid (w.grownBy _ none ∧ _ = some (Obj.cells #[.int .i64 x.k, .int .i64 x.n, .slice a1 l1 c1, .slice a2 l2 c2] 25) ∧ _ = some (Obj.cells #[.int .i64 0, .int .i64 0, .slice none 0 0, .slice none 0 0] 31) ∧ _ = some (Obj.cells #[.int .i64 x.k, .int .i64 x.n, .slice none 0 0, .slice none 0 0] 31) ∧ _ = w.heap.size + 1 + 1 + 1) := ⟨g0, b0, b1, b2, bsz⟩
  have C0 : Hid _ := toB a1 l1 c1 (x.text) _ ((HN.out _ g0).1).1 (by have := HS.out; have := ((HN.out _ g0).1).1.1; unfold szVal at *; omega)
  obtain ⟨⟨y0, y1, y2, y3⟩, -⟩ := blkVal b0
  clear g0 b0 b1 b2 bsz
  go_enter Tryd.func8, Tryd.ntmps8
  go_wp2_with fail
  refine Calls.mono C0.out ?_
  rintro e u0 ⟨r1, he, hg, hgl, hrow⟩
  subst he
  obtain ⟨gv, ck0, ck1, ck2, hsz⟩ := L0.out
  have dk0 := (hg.block _ (lt_of_block ck0) (by simp)).trans ck0
  have dk1 := (hg.block _ (lt_of_block ck1) (by simp)).trans ck1
  have dk2 := (hg.block _ (lt_of_block ck2) (by simp)).trans ck2
  have g2 := grown_trans gv hg
  have hlo := Nat.le_of_eq hsz.symm
  have hhs := hg.size
  generalize ee0 : w.heap.size = p0 at *
  generalize ee1 : p0 + 1 = p1 at *
  generalize ee2 : p1 + 1 = p2 at *
  have nw0 := hrow.hiz (HY.out.1).2.1 (HY.out.1).1.1 (by have := HS.out; have := (HY.out.1).1.1; unfold szVal at *; omega) (lo := p2 + 1) (by omega)
  clear C0 L0 gv ck0 ck1 ck2 hsz hg hgl hrow hlo hhs y0 y1 y2 y3
  have n02 : p0 ≠ p2 := by omega
  have n12 : p1 ≠ p2 := by omega
  have n01 : p0 ≠ p1 := by omega
  have kS0 : u0.grownBy (u0.setCell ⟨p2, 2, none⟩ (.slice (some ⟨r1, 0, none⟩) l1 l1)) (some p2) := grown_trans (World.grownBy.refl _ _) (grown_setCell _ _ _ _)
  have dd0_0 : (u0.setCell ⟨p2, 2, none⟩ (.slice (some ⟨r1, 0, none⟩) l1 l1)).heap[p2]? = some (Obj.cells #[.int .i64 x.k, .int .i64 x.n, .slice (some ⟨r1, 0, none⟩) l1 l1, .slice none 0 0] 31) := heap_setCell_same _ p2 2 _ _ (.slice (some ⟨r1, 0, none⟩) l1 l1) dk2
  have m2 : (u0.setCell ⟨p2, 2, none⟩ (.slice (some ⟨r1, 0, none⟩) l1 l1)).heap[p2]? = some (Obj.cells #[.int .i64 x.k, .int .i64 x.n, .slice (some ⟨r1, 0, none⟩) l1 l1, .slice none 0 0] 31) := dd0_0
  have m1 := (kS0.block _ (lt_of_block dk1) (by simp; omega)).trans dk1
  have m0 := (kS0.block _ (lt_of_block dk0) (by simp; omega)).trans dk0
  have gv : w.grownBy (u0.setCell ⟨p2, 2, none⟩ (.slice (some ⟨r1, 0, none⟩) l1 l1)) none := grown_into g2 kS0 (by omega)
  have hcl : CLe (hideZ u0 (p2 + 1)) (hideZ (u0.setCell ⟨p2, 2, none⟩ (.slice (some ⟨r1, 0, none⟩) l1 l1)) (p2 + 1)) := hiz_into kS0 (by omega)
  have L1 : Hid (w.grownBy (u0.setCell ⟨p2, 2, none⟩ (.slice (some ⟨r1, 0, none⟩) l1 l1)) none ∧ (u0.setCell ⟨p2, 2, none⟩ (.slice (some ⟨r1, 0, none⟩) l1 l1)).heap[p0]? = some (Obj.cells #[.int .i64 x.k, .int .i64 x.n, .slice a1 l1 c1, .slice a2 l2 c2] 25) ∧ (u0.setCell ⟨p2, 2, none⟩ (.slice (some ⟨r1, 0, none⟩) l1 l1)).heap[p1]? = some (Obj.cells #[.int .i64 0, .int .i64 0, .slice none 0 0, .slice none 0 0] 31) ∧ (u0.setCell ⟨p2, 2, none⟩ (.slice (some ⟨r1, 0, none⟩) l1 l1)).heap[p2]? = some (Obj.cells #[.int .i64 x.k, .int .i64 x.n, .slice (some ⟨r1, 0, none⟩) l1 l1, .slice none 0 0] 31) ∧ (w.heap.size = p0 ∧ p0 + 1 = p1 ∧ p1 + 1 = p2) ∧ RdB (hideZ (u0.setCell ⟨p2, 2, none⟩ (.slice (some ⟨r1, 0, none⟩) l1 l1)) (p2 + 1)) (some ⟨r1, 0, none⟩) l1 (x.text)) := ⟨gv, m0, m1, m2, ⟨ee0, ee1, ee2⟩, nw0.le hcl⟩
  have C1 : Hid _ := HSS.out (x.list) a2 l2 c2 (u0.setCell ⟨p2, 2, none⟩ (.slice (some ⟨r1, 0, none⟩) l1 l1)) hm ((HN.out (u0.setCell ⟨p2, 2, none⟩ (.slice (some ⟨r1, 0, none⟩) l1 l1)) gv).2) (by have := HS.out; unfold szVal at *; omega)
  obtain ⟨⟨y0, y1, y2, y3⟩, -⟩ := blkVal dk0
  obtain ⟨⟨zz0, zz1, zz2, zz3⟩, hfz⟩ := blkVal dk2
  have ff0 := hfz 2
  clear kS0 dd0_0 m2 m1 m0 gv hcl dk0 dk1 dk2 g2 ee0 ee1 ee2 hfz nw0
  simp only []
  go_wp2_with fail
  refine Calls.mono C1.out ?_
  rintro e u1 ⟨r2, s2, he, hls2, hg, hN⟩
  subst he
  obtain ⟨gv, ck0, ck1, ck2, ⟨ee0, ee1, ee2⟩, ow0⟩ := L1.out
  have dk0 := (hg.block _ (lt_of_block ck0) (by simp)).trans ck0
  have dk1 := (hg.block _ (lt_of_block ck1) (by simp)).trans ck1
  have dk2 := (hg.block _ (lt_of_block ck2) (by simp)).trans ck2
  have g2 := grown_trans gv hg
  have hlo : p2 + 1 ≤ (u0.setCell ⟨p2, 2, none⟩ (.slice (some ⟨r1, 0, none⟩) l1 l1)).heap.size := lt_of_block ck2
  have hhs := hg.size
  have nw1 := hN.le (hiz_low (lo' := p2 + 1) hlo)
  have nw0 := ow0.le (hiz_grown (lo := p2 + 1) hg)
  clear C1 L1 gv ck0 ck1 ck2 hg hN hlo hhs ow0 y0 y1 y2 y3 zz0 zz1 zz2 zz3 ff0
  have kS1 : u1.grownBy (u1.setCell ⟨p2, 3, none⟩ (.slice r2 l2 s2)) (some p2) := grown_trans (World.grownBy.refl _ _) (grown_setCell _ _ _ _)
  have dd1_0 : (u1.setCell ⟨p2, 3, none⟩ (.slice r2 l2 s2)).heap[p2]? = some (Obj.cells #[.int .i64 x.k, .int .i64 x.n, .slice (some ⟨r1, 0, none⟩) l1 l1, .slice r2 l2 s2] 31) := heap_setCell_same _ p2 3 _ _ (.slice r2 l2 s2) dk2
  have m2 : (u1.setCell ⟨p2, 3, none⟩ (.slice r2 l2 s2)).heap[p2]? = some (Obj.cells #[.int .i64 x.k, .int .i64 x.n, .slice (some ⟨r1, 0, none⟩) l1 l1, .slice r2 l2 s2] 31) := dd1_0
  have m1 := (kS1.block _ (lt_of_block dk1) (by simp; omega)).trans dk1
  have m0 := (kS1.block _ (lt_of_block dk0) (by simp; omega)).trans dk0
  have gv : w.grownBy (u1.setCell ⟨p2, 3, none⟩ (.slice r2 l2 s2)) none := grown_into g2 kS1 (by omega)
  have hcl : CLe (hideZ u1 (p2 + 1)) (hideZ (u1.setCell ⟨p2, 3, none⟩ (.slice r2 l2 s2)) (p2 + 1)) := hiz_into kS1 (by omega)
  have L2 : Hid (w.grownBy (u1.setCell ⟨p2, 3, none⟩ (.slice r2 l2 s2)) none ∧ (u1.setCell ⟨p2, 3, none⟩ (.slice r2 l2 s2)).heap[p0]? = some (Obj.cells #[.int .i64 x.k, .int .i64 x.n, .slice a1 l1 c1, .slice a2 l2 c2] 25) ∧ (u1.setCell ⟨p2, 3, none⟩ (.slice r2 l2 s2)).heap[p1]? = some (Obj.cells #[.int .i64 0, .int .i64 0, .slice none 0 0, .slice none 0 0] 31) ∧ (u1.setCell ⟨p2, 3, none⟩ (.slice r2 l2 s2)).heap[p2]? = some (Obj.cells #[.int .i64 x.k, .int .i64 x.n, .slice (some ⟨r1, 0, none⟩) l1 l1, .slice r2 l2 s2] 31) ∧ (w.heap.size = p0 ∧ p0 + 1 = p1 ∧ p1 + 1 = p2) ∧ RdB (hideZ (u1.setCell ⟨p2, 3, none⟩ (.slice r2 l2 s2)) (p2 + 1)) (some ⟨r1, 0, none⟩) l1 (x.text) ∧ SlVal (hideZ (u1.setCell ⟨p2, 3, none⟩ (.slice r2 l2 s2)) (p2 + 1)) r2 l2 (x.list)) := ⟨gv, m0, m1, m2, ⟨ee0, ee1, ee2⟩, nw0.le hcl, nw1.le hcl⟩
  obtain ⟨mf, kf⟩ := fillVal (.int .i64 x.k) (.int .i64 x.n) (.slice (some ⟨r1, 0, none⟩) l1 l1) (.slice r2 l2 s2) m1
  have GF := grown_into gv kf (by omega)
  have hcf := hiz_into (lo := p2 + 1) kf (by omega)
  have FQ : Hid _ := And.intro mf (And.intro GF (show RdVal (hideZ _ p0) x (some ⟨r1, 0, none⟩) l1 (r2) l2 from ⟨((nw0.le hcl).le hcf).le (hiz_low (lo := p2 + 1) (lo' := p0) (by omega)), ((nw1.le hcl).le hcf).le (hiz_low (lo := p2 + 1) (lo' := p0) (by omega))⟩))
  obtain ⟨⟨y0, y1, y2, y3⟩, -⟩ := blkVal dk0
  obtain ⟨⟨zz0, zz1, zz2, zz3⟩, hfz⟩ := blkVal dk2
  obtain ⟨⟨x0, x1, x2, x3⟩, hfx⟩ := blkVal dk1
  have ff0 := hfz 3
  have fx0 := hfx 0
  have fx1 := hfx 1
  have fx2 := hfx 2
  have fx3 := hfx 3
  clear kS1 dd1_0 m2 m1 m0 gv hcl dk0 dk1 dk2 g2 hfz hfx nw0 nw1 mf kf GF hcf L2
  have p12 : p2 ≠ p1 := by omega
  simp only []
  go_wp2
  (try simp only [Exit.inBlock, Exit.then])
  refine bodyPost_ret (results_cell_row (P := Tryd.prog) Tryd.results8 _ _ p1 _ _ _ _ rfl FQ.out.1 Tryd.underlying31 rfl (by kernel_rfl)) rfl ?_
  refine ⟨some ⟨r1, 0, none⟩, l1, r2, s2, rfl, Nat.le_refl _, hls2, ?_⟩
  rw [ee0]
  exact FQ.out.2

set_option maxRecDepth 4000 in
set_option maxHeartbeats 4000000 in
theorem toS_of (m : Nat) (hT : ∀ k, k < m → ToT k) : ToS m := by
  intro xs a l c w hm h hs
  have HT : Hid (∀ k, k < m → ToT k) := hT
  clear hT
  have hlen := V.len_le xs
  have hl := h.2.1
  have hfl := h.1
  rcases h.cases with ⟨rfl, rfl⟩ | ⟨b, o, rfl, hin, hpos⟩
  · have hmk := makeSVal0
    go_enter Tryd.func9, Tryd.ntmps9
    go_wp2
    refine wp_loop_rounds 1 ?_
    rw [rounds_succ]
    go_wp2
    go_ret
    exact ⟨_, _, rfl, Nat.le_refl _, World.grownBy_alloc _ _ _, ⟨rfl, by omega, .inl rfl⟩⟩
  have hmk := makeSVal l (by omega)
  have hb0 := madeSVal_blk w l
  have IN : Hid (InVal w w xs b o) := hin
  have HB : Hid _ := hb0
  clear hin h hb0
  skip
  go_enter Tryd.func9, Tryd.ntmps9
  go_wp2
  go_loopw [4] (fun i wr => ∃ (j : Nat) (P R : V), j ≤ l ∧ i = .int .i64 j ∧ P.len = j ∧ R.len + j = l ∧ R.size ≤ m ∧ R.size ≤ 1048576 ∧ Hid (w.grownBy wr none ∧ InVal w w R b (o + j * 4) ∧ BlkN wr 31 w.heap.size (l * 4) ∧ InVal wr (hideZ wr (w.heap.size + 1)) P w.heap.size 0 ∧ P.app R = xs)) (fun i _ => l - (intOf i).toNat)
  case atStart => exact ⟨0, .nil, xs, Nat.zero_le _, rfl, rfl, by omega, hm, hs, World.grownBy_alloc _ _ _, by simpa using IN.out, HB.out, trivial, rfl⟩
  case round =>
    obtain ⟨j, P, R, hj, rfl, hPl, hRl, hRm, hRs, HR⟩ := hrel
    by_cases hlt : j < l
    · obtain ⟨x, R', rfl⟩ : ∃ x R', R = V.cn x R' := by
        cases R with
        | nil => simp only [V.len] at hRl; omega
        | cons k n t d R' => exact ⟨⟨k, n, t, d⟩, R', rfl⟩
      obtain ⟨hg, hRa, hB, hP, hcs⟩ := HR.out
      obtain ⟨a1, l1, c1, a2, l2, c2, ⟨k0, k1, k2, k3⟩, hd, hR2⟩ := hRa.cn
      clear hRa
      rw [show o + j * 4 + 4 = o + (j + 1) * 4 by omega] at hR2
      simp only [V.size_cn] at hRs hRm
      simp only [V.len_cn] at hRl
      have k0 := hg.cell k0 (by simp)
      have k1 := hg.cell k1 (by simp)
      have k2 := hg.cell k2 (by simp)
      have k3 := hg.cell k3 (by simp)
      skip
      have hRm2 : R'.size ≤ m := by omega
      have CC : Hid _ := HT.out x.list.size (by simp only [szVal] at hRm; omega) x a1 l1 c1 a2 l2 c2 wr (Nat.le_refl _) (hd.none hg) (by omega)
      have FX : Hid (w.grownBy wr none ∧ InVal w w R' b (o + (j + 1) * 4) ∧ BlkN wr 31 w.heap.size (l * 4) ∧ InVal wr (hideZ wr (w.heap.size + 1)) P w.heap.size 0 ∧ (P.app (V.cn x .nil)).app R' = xs) := ⟨hg, hR2, hB, hP, by rw [V.app_assoc]; exact hcs⟩
      clear hd hR2 hg hB hP hcs IN HR hmk HB
      go_wp2_with fail
      refine Calls.mono CC.out ?_
      rintro e u ⟨t1, w1, t2, w2, he, hlw, -, hgu, hr⟩
      subst he
      have hBu := FX.out.2.2.1.of (hgu.block _ FX.out.2.2.1.lt (by simp))
      obtain ⟨q0, qq0⟩ := hBu.has (j * 4) (by omega)
      have ff0 := hBu.free (j * 4)
      obtain ⟨q1, qq1⟩ := hBu.has (j * 4 + 1) (by omega)
      have ff1 := hBu.free (j * 4 + 1)
      obtain ⟨q2, qq2⟩ := hBu.has (j * 4 + 2) (by omega)
      have ff2 := hBu.free (j * 4 + 2)
      obtain ⟨q3, qq3⟩ := hBu.has (j * 4 + 3) (by omega)
      have ff3 := hBu.free (j * 4 + 3)
      have FY : Hid (BlkN u 31 w.heap.size (l * 4) ∧ wr.grownBy u none ∧ RdVal (hideZ u wr.heap.size) x t1 l1 t2 l2) := ⟨hBu, hgu, hr⟩
      clear CC hgu hr hBu k0 k1 k2 k3
      simp only []
      go_wp2
      obtain ⟨hg, hR2, hB, hP, hcs⟩ := FX.out
      obtain ⟨hBu, hgu, hr⟩ := FY.out
      have hsz := hB.lt
      obtain ⟨hB3, hk3, tq, hoth⟩ := hBu.putsVal (j * 4) (by omega) (.int .i64 x.k) (.int .i64 x.n) (.slice t1 l1 w1) (.slice t2 l2 w2)
      have hfx : ∀ i, w.heap.size + 1 ≤ i → i < wr.heap.size → _ = wr.heap[i]? := fun i h1 h2 => (hk3.block i (Nat.lt_of_lt_of_le h2 hgu.size) (by simp; omega)).trans (hgu.block i h2 (by simp))
      have hfu : ∀ i, wr.heap.size ≤ i → i < u.heap.size → _ = u.heap[i]? := fun i h1 h2 => hk3.block i h2 (by simp; omega)
      have hP2 := hP.move (b' := w.heap.size) (off' := 0) (fun i v hi hv => (hoth (0 + i) (by rw [hPl] at hi; omega)).trans (hgu.cell hv (by simp))) (CLe.hidz (Nat.le_refl _) hfx)
      have cl := CLe.hidz (lo' := w.heap.size + 1) (by omega) hfu
      have hQ := hP2.app (Q := V.cn x .nil) ⟨⟨t1, l1, w1, t2, l2, w2, ⟨by rw [hPl, Nat.zero_add]; exact tq.1, by rw [hPl, Nat.zero_add]; exact tq.2.1, by rw [hPl, Nat.zero_add]; exact tq.2.2.1, by rw [hPl, Nat.zero_add]; exact tq.2.2.2⟩, hlw, hr.le cl⟩, trivial⟩
      go_roundw
      case rel => exact ⟨j + 1, P.app (V.cn x .nil), R', by omega, by go_num, by rw [V.app_len, V.len_cn, hPl]; rfl, by omega, hRm2, by omega, grown_into (grown_trans hg hgu) hk3 (Nat.le_refl _), hR2, hB3, hQ, hcs⟩
      case measure => simp [intOf]; omega
    · obtain rfl : j = l := by omega
      obtain rfl : R = .nil := V.nil_of_len (by omega)
      obtain ⟨hg, -, hB, hP, hcs⟩ := HR.out
      rw [V.app_nil] at hcs
      subst hcs
      have FQ : Hid (w.grownBy wr none ∧ SlVal (hideZ wr w.heap.size) (some ⟨w.heap.size, 0, none⟩) j P) := ⟨hg, hPl, by omega, .inr ⟨_, _, rfl, hP.move (fun i v hi hv => (hideZ_cell (Nat.le_refl _) hB).trans hv) (CLe.hidz (Nat.le_succ _) (fun _ _ _ => rfl))⟩⟩
      clear hg hB hP HR IN HB
      go_wp2
      go_ret
      exact ⟨_, _, rfl, Nat.le_refl _, FQ.out.1, FQ.out.2⟩

theorem toS_all : ∀ m, ToS m := fun m => Nat.strongRecOn m fun m ih => toS_of m fun k hk => toT_of k (ih k hk)
theorem toT_all (m : Nat) : ToT m := toT_of m (toS_all m)
end Go.Proofs.YtpmndefmibnaeaaDoor.By
