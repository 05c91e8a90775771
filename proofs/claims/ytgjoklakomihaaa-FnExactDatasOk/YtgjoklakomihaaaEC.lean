/-
  The law's own copies of constructors and data, by their contracts. No statement is proved here.
-/
import Derived.Test.YtgjoklakomihaaaEH
import Derived.Test.YtgjoklakomihaaaHelp
import Derived.Test.YtgjoklakomihaaaTCopy
namespace Go.Proofs.Ytgjoklakomihaaa.By
open Go.RowKit
set_option linter.unusedVariables false
set_option linter.unusedSimpArgs false

theorem cell_any {w u : World} {p : Addr} (e : u.heap[p.block]? = w.heap[p.block]?) : u.cell? p = w.cell? p := by
  unfold World.cell?; rw [e]
theorem CLe.hide {u u' : World} {lo lo' : Nat} (hl : lo' ≤ lo) (h : ∀ i, lo ≤ i → i < u.heap.size → u'.heap[i]? = u.heap[i]?) : CLe (hideW u lo) (hideW u' lo') := by
  intro p v hv
  by_cases hp : p.block < lo
  · obtain ⟨b, off, s⟩ := p
    have e : (hideW u lo).heap[b]? = none ∨ (hideW u lo).heap[b]? = some (.map #[] 0) := by
      unfold hideW
      rw [Array.getElem?_mapIdx]
      simp only [if_pos hp]
      cases u.heap[b]? with
      | none => exact .inl rfl
      | some o => exact .inr rfl
    rcases e with e | e <;> simp [World.cell?, e] at hv
  · have e1 := hideW_heap (w := u) (lo := lo) (i := p.block) (by omega)
    have e2 := hideW_heap (w := u') (lo := lo') (i := p.block) (by omega)
    have hs : p.block < u.heap.size := by
      by_cases hs : p.block < u.heap.size
      · exact hs
      · have : u.heap[p.block]? = none := Array.getElem?_eq_none (by omega)
        rw [this] at e1
        simp [World.cell?, e1] at hv
    rw [cell_any (e2.trans ((h p.block (by omega) hs).trans e1.symm))]
    exact hv
theorem CLe.unhide {u : World} {lo : Nat} : CLe (hideW u lo) u := by
  intro p v hv
  have := CLe.hide (u := u) (u' := u) (lo := lo) (lo' := 0) (Nat.zero_le _) (fun _ _ _ => rfl) p v hv
  rw [cell_any (w := u) (hideW_heap (Nat.zero_le _))] at this
  exact this
theorem Row.hid {w : World} {g n lo : Nat} {zs : List Int} (h : Row w g n zs) (hz : Byt zs) (hl : zs.length = n) (hn : n ≤ 1048576) (hg : lo ≤ g) : RdB (hideW w lo) (some ⟨g, 0, none⟩) n zs :=
  ⟨(h.of_block (hideW_heap hg)).reads' hl, hz, by omega⟩
theorem New.hid {w u : World} {t : TypeId} {a : Option Addr} {l c lo : Nat} {f : F} {bs : List Nat} (h : New w u t a l c f bs) (hl : lo ≤ w.heap.size) : SlF (hideW u lo) a l f :=
  (h.1.of (w' := hideW u lo) (fun x hx => hideW_heap (Nat.le_trans hl (h.2.2 x hx)))).reads
/-- A block of k cells. -/
def BlkN (w : World) (t : TypeId) (g k : Nat) : Prop := ∃ cur : Array Value, w.heap[g]? = some (.cells cur t (0, 0)) ∧ cur.size = k
theorem BlkN.lt {w : World} {t : TypeId} {g k : Nat} (h : BlkN w t g k) : g < w.heap.size := by obtain ⟨_, h, _⟩ := h; exact lt_of_block h
theorem BlkN.of {w u : World} {t : TypeId} {g k : Nat} (h : BlkN w t g k) (e : u.heap[g]? = w.heap[g]?) : BlkN u t g k := by obtain ⟨c, h, h2⟩ := h; exact ⟨c, e.trans h, h2⟩
theorem BlkN.has {w : World} {t : TypeId} {g k : Nat} (h : BlkN w t g k) (j : Nat) (hj : j < k) : ∃ v, w.cell? ⟨g, j, none⟩ = some v := by
  obtain ⟨c, h, h2⟩ := h
  rw [cell_of_row w g j c t (0, 0) h]
  exact ⟨c[j]'(by omega), by simp [h2, hj]⟩
theorem BlkN.free {w : World} {t : TypeId} {g k : Nat} (h : BlkN w t g k) (j : Nat) : w.frozen? ⟨g, j, none⟩ = false := by
  obtain ⟨c, h, h2⟩ := h
  exact frozen_of_row w g _ _ t h
theorem BlkN.set {w : World} {t : TypeId} {g k : Nat} (h : BlkN w t g k) (j : Nat) (hj : j < k) (v : Value) : BlkN (w.setCell ⟨g, j, none⟩ v) t g k ∧ w.grownBy (w.setCell ⟨g, j, none⟩ v) (some g) ∧ (w.setCell ⟨g, j, none⟩ v).cell? ⟨g, j, none⟩ = some v ∧ ∀ i, i ≠ j → (w.setCell ⟨g, j, none⟩ v).cell? ⟨g, i, none⟩ = w.cell? ⟨g, i, none⟩ := by
  obtain ⟨c, h, h2⟩ := h
  have hs := heap_setCell_same w g j c t v h
  refine ⟨⟨_, hs, by simpa using h2⟩, grown_setCell _ _ _ _, ?_, fun i hi => ?_⟩
  · rw [cell_of_row _ g j _ t (0, 0) hs]; simp [h2, hj]
  · rw [cell_of_row _ g i _ t (0, 0) hs, cell_of_row w g i _ t (0, 0) h]
    simp [Array.getElem?_setIfInBounds, Ne.symm hi]
theorem infoCo : (Try.prog.info? 41).map (fun i => (i.zero, i.size, i.bytes)) = some (some (.agg #[.slice none 0 0, .slice none 0 0]), 2, 48) := by kernel_rfl
theorem infoDa : (Try.prog.info? 36).map (fun i => (i.zero, i.size, i.bytes)) = some (some (.agg #[.slice none 0 0, .int .i64 0, .slice none 0 0]), 3, 56) := by kernel_rfl
theorem makeCo (n : Nat) (hn : n ≤ 4194304) (w : World) : (Instr.makeSlice 34 (.int .i64 (n : Int)) (.int .i64 (n : Int))).run Try.prog w = .ok (.slice (some ⟨w.heap.size, 0, none⟩) n n) (w.alloc (.cells (madeCells #[.slice none 0 0, .slice none 0 0] (n * 2)) 41)) := by
  obtain ⟨i0, hi, hz0, hz1, hz2⟩ := info_parts infoCo
  have h := run_make (P := Try.prog) (w := w) 34 41 i0 _ Try.underlying34 hi hz0 .i64 .i64 (n : Int) (n : Int) (by omega) (by omega) (by rw [hz2]; omega) (by omega)
  rw [hz1] at h
  simpa [Value.cells] using h
theorem makeCo0 (w : World) : (Instr.makeSlice 34 (.int .i64 0) (.int .i64 0)).run Try.prog w = .ok (.slice (some ⟨w.heap.size, 0, none⟩) 0 0) (w.alloc (.cells (madeCells #[.slice none 0 0, .slice none 0 0] 0) 41)) := makeCo 0 (by omega) w
theorem madeCo_blk (w : World) (n : Nat) : BlkN (w.alloc (.cells (madeCells #[.slice none 0 0, .slice none 0 0] (n * 2)) 41)) 41 w.heap.size (n * 2) := ⟨_, heap_alloc_new w _, by simp [madeCells]⟩
theorem makeDa (n : Nat) (hn : n ≤ 4194304) (w : World) : (Instr.makeSlice 25 (.int .i64 (n : Int)) (.int .i64 (n : Int))).run Try.prog w = .ok (.slice (some ⟨w.heap.size, 0, none⟩) n n) (w.alloc (.cells (madeCells #[.slice none 0 0, .int .i64 0, .slice none 0 0] (n * 3)) 36)) := by
  obtain ⟨i0, hi, hz0, hz1, hz2⟩ := info_parts infoDa
  have h := run_make (P := Try.prog) (w := w) 25 36 i0 _ Try.underlying25 hi hz0 .i64 .i64 (n : Int) (n : Int) (by omega) (by omega) (by rw [hz2]; omega) (by omega)
  rw [hz1] at h
  simpa [Value.cells] using h
theorem makeDa0 (w : World) : (Instr.makeSlice 25 (.int .i64 0) (.int .i64 0)).run Try.prog w = .ok (.slice (some ⟨w.heap.size, 0, none⟩) 0 0) (w.alloc (.cells (madeCells #[.slice none 0 0, .int .i64 0, .slice none 0 0] 0) 36)) := makeDa 0 (by omega) w
theorem madeDa_blk (w : World) (n : Nat) : BlkN (w.alloc (.cells (madeCells #[.slice none 0 0, .int .i64 0, .slice none 0 0] (n * 3)) 36)) 36 w.heap.size (n * 3) := ⟨_, heap_alloc_new w _, by simp [madeCells]⟩

set_option maxHeartbeats 2000000 in
theorem toCoT (x : Co) (a : Option Addr) (n c : Nat) (a' : Option Addr) (l' c' : Nat) (w : World) (h : RdB w a n x.name) (h' : SlF w a' l' x.flds) (hs : szCo x ≤ 1048576) :
    Calls Try.prog 42 #[.agg #[.slice a n c, .slice a' l' c']] w fun e u => ∃ a1 c1 a2 c2, e = .returned (.agg #[.slice a1 n c1, .slice a2 l' c2]) ∧ w.grownBy u none ∧ RdB (hideW u w.heap.size) a1 n x.name ∧ SlF (hideW u w.heap.size) a2 l' x.flds := by
  obtain ⟨b0, b1, b2, bsz⟩ := alloc3_blocks w (.cells #[.slice a n c, .slice a' l' c'] 68) (.cells #[.slice none 0 0, .slice none 0 0] 41) (.cells #[.slice none 0 0, .slice none 0 0] 41)
  have g0 := grown_alloc (grown_alloc (grown_alloc (World.grownBy.refl w none) (.cells #[.slice a n c, .slice a' l' c'] 68)) (.cells #[.slice none 0 0, .slice none 0 0] 41)) (.cells #[.slice none 0 0, .slice none 0 0] 41)
  have hnl := h.1.1
  have C0 : Hid _ := toB a n c x.name _ (h.none g0).1 (by unfold szCo at hs; omega)
  have HX : Hid (Byt x.name ∧ x.name.length = n ∧ szCo x ≤ 1048576 ∧ SlF w a' l' x.flds) := ⟨h.2.1, hnl, hs, h'⟩
  have L0 : Hid (w.grownBy _ none ∧ _ = some (Obj.cells #[.slice a n c, .slice a' l' c'] 68) ∧ _ = some (Obj.cells #[.slice none 0 0, .slice none 0 0] 41) ∧ _ = some (Obj.cells #[.slice none 0 0, .slice none 0 0] 41) ∧ _ = w.heap.size + 1 + 1 + 1) := ⟨g0, b0, b1, b2, bsz⟩
  obtain ⟨⟨y0, y1⟩, -⟩ := two2 b0
  clear g0 b0 b1 b2 bsz h h' hnl hs
  go_enter Try.func42, Try.ntmps42
  go_wp2_with fail
  refine Calls.mono C0.out ?_
  rintro e u ⟨g, he, hg, hgl, hrow⟩
  subst he
  obtain ⟨g1, c0, c1, c2, hsz⟩ := L0.out
  rw [hsz] at hgl
  have c0' := (hg.block _ (lt_of_block c0) (by simp)).trans c0
  have c1' := (hg.block _ (lt_of_block c1) (by simp)).trans c1
  have c2' := (hg.block _ (lt_of_block c2) (by simp)).trans c2
  have g2 := grown_trans g1 hg
  clear C0 L0 g1 c0 c1 c2 hsz hg y0 y1
  generalize e0 : w.heap.size = p0 at *
  generalize e1 : p0 + 1 = p1 at *
  generalize e2 : p1 + 1 = p2 at *
  have n02 : p0 ≠ p2 := by omega
  have n12 : p1 ≠ p2 := by omega
  have n01 : p0 ≠ p1 := by omega
  obtain ⟨⟨y0, y1⟩, -⟩ := two2 c0'
  obtain ⟨⟨z0, z1⟩, f0, f1⟩ := two2 c2'
  have k2 := grown_setCell u p2 0 (.slice (some ⟨g, 0, none⟩) n n)
  have gv : w.grownBy (u.setCell ⟨p2, 0, none⟩ (.slice (some ⟨g, 0, none⟩) n n)) none := grown_into g2 k2 (by omega)
  have d2 := heap_setCell_same u p2 0 _ _ (.slice (some ⟨g, 0, none⟩) n n) c2'
  have d1 := (k2.block _ (lt_of_block c1') (by simp; omega)).trans c1'
  have d0 := (k2.block _ (lt_of_block c0') (by simp; omega)).trans c0'
  have rw1 := hrow.kept k2 (by simp; omega)
  have C1 : Hid _ := toS x.flds.size x.flds a' l' c' (u.setCell ⟨p2, 0, none⟩ (.slice (some ⟨g, 0, none⟩) n n)) (Nat.le_refl _) (by have := HX.out.2.2.1; unfold szCo at this; omega) (HX.out.2.2.2.none gv)
  have d2' : (u.setCell ⟨p2, 0, none⟩ (.slice (some ⟨g, 0, none⟩) n n)).heap[p2]? = some (Obj.cells #[.slice (some ⟨g, 0, none⟩) n n, .slice none 0 0] 41) := d2
  have L2 : Hid (w.grownBy (u.setCell ⟨p2, 0, none⟩ (.slice (some ⟨g, 0, none⟩) n n)) none ∧ (u.setCell ⟨p2, 0, none⟩ (.slice (some ⟨g, 0, none⟩) n n)).heap[p1]? = some (Obj.cells #[.slice none 0 0, .slice none 0 0] 41) ∧ (u.setCell ⟨p2, 0, none⟩ (.slice (some ⟨g, 0, none⟩) n n)).heap[p2]? = some (Obj.cells #[.slice (some ⟨g, 0, none⟩) n n, .slice none 0 0] 41) ∧ Row (u.setCell ⟨p2, 0, none⟩ (.slice (some ⟨g, 0, none⟩) n n)) g n x.name ∧ p2 < g ∧ w.heap.size = p0 ∧ p0 + 1 = p1 ∧ p1 + 1 = p2) := ⟨gv, d1, d2', rw1, by omega, e0, e1, e2⟩
  clear gv d1 d2 d2' rw1 hgl e0 e1 e2 g2 hrow c0' c1' c2' k2 d0
  simp only []
  go_wp2_with fail
  refine Calls.mono C1.out ?_
  rintro e u2 ⟨a2, c2, bs, he, hg, hN⟩
  subst he
  obtain ⟨gv, d1, d2, hrow, hpg, e0, e1, e2⟩ := L2.out
  have d1' := (hg.block _ (lt_of_block d1) (by simp)).trans d1
  have d2' := (hg.block _ (lt_of_block d2) (by simp)).trans d2
  have hbs : ∀ y ∈ bs, p2 < y := fun y hy => Nat.lt_of_lt_of_le (lt_of_block d2) (hN.2.2 y hy)
  have r2 := hrow.kept hg (by simp)
  obtain ⟨⟨v0, v1⟩, q0, q1⟩ := two2 d2'
  obtain ⟨⟨x0, x1⟩, s0, s1⟩ := two2 d1'
  have k3 := grown_setCell u2 p2 1 (.slice a2 l' c2)
  have m2 : (u2.setCell ⟨p2, 1, none⟩ (.slice a2 l' c2)).heap[p2]? = some (Obj.cells #[.slice (some ⟨g, 0, none⟩) n n, .slice a2 l' c2] 41) := heap_setCell_same u2 p2 1 _ _ (.slice a2 l' c2) d2'
  have m1 := (k3.block _ (lt_of_block d1') (by simp; omega)).trans d1'
  have k4 := grown_setCell (u2.setCell ⟨p2, 1, none⟩ (.slice a2 l' c2)) p1 0 (.slice (some ⟨g, 0, none⟩) n n)
  have m3 := heap_setCell_same _ p1 0 _ _ (.slice (some ⟨g, 0, none⟩) n n) m1
  have k5 := grown_setCell ((u2.setCell ⟨p2, 1, none⟩ (.slice a2 l' c2)).setCell ⟨p1, 0, none⟩ (.slice (some ⟨g, 0, none⟩) n n)) p1 1 (.slice a2 l' c2)
  have m4 : (((u2.setCell ⟨p2, 1, none⟩ (.slice a2 l' c2)).setCell ⟨p1, 0, none⟩ (.slice (some ⟨g, 0, none⟩) n n)).setCell ⟨p1, 1, none⟩ (.slice a2 l' c2)).heap[p1]? = some (Obj.cells #[.slice (some ⟨g, 0, none⟩) n n, .slice a2 l' c2] 41) := heap_setCell_same _ p1 1 _ _ (.slice a2 l' c2) m3
  have GF := grown_into (grown_into (grown_into (grown_trans gv hg) k3 (by omega)) k4 (by omega)) k5 (by omega)
  have rf := ((r2.kept k3 (by simp; omega)).kept k4 (by simp; omega)).kept k5 (by simp; omega)
  have sf := ((hN.1.kept k3 (fun y hy => by have := hbs y hy; simp; omega)).kept k4 (fun y hy => by have := hbs y hy; simp; omega)).kept k5 (fun y hy => by have := hbs y hy; simp; omega)
  have FQ : Hid _ := And.intro m4 (And.intro GF (And.intro (rf.hid HX.out.1 HX.out.2.1 (by have := HX.out.2.2.1; have := HX.out.2.1; unfold szCo at *; omega) (lo := p0) (by omega)) (sf.of (w' := hideW _ p0) (fun y hy => hideW_heap (by have := hbs y hy; omega))).reads))
  clear gv d1 d2 hrow hpg d1' d2' hbs r2 k3 m2 m1 k4 m3 k5 m4 GF rf sf hg hN C1 L2 y0 y1 z0 z1 f0 f1
  have p12 : p2 ≠ p1 := by omega
  simp only []
  go_wp2
  (try simp only [Exit.inBlock, Exit.then])
  refine bodyPost_ret (results_cell_row (P := Try.prog) Try.results42 _ _ p1 _ _ _ _ rfl FQ.out.1 Try.underlying41 rfl (by kernel_rfl)) rfl ?_
  refine ⟨_, _, a2, c2, rfl, ?_⟩
  rw [e0]
  exact FQ.out.2
end Go.Proofs.Ytgjoklakomihaaa.By
