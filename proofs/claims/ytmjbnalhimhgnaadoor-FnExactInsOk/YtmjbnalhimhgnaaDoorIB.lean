/-
  The table of ops. No statement is proved here.
-/
import Derived.Test.YtmjbnalhimhgnaaDoorIA
import Derived.Deep.DeepCutAuto
import Derived.Laws.Rows
namespace Go.Proofs.YtmjbnalhimhgnaaDoor.By
open Go.RowKit
set_option linter.unusedVariables false
set_option linter.unusedSimpArgs false

set_option maxRecDepth 20000

def hasA (op : Int) : Bool := decide (op = 1) || decide (op = 4) || decide (op = 6) || decide (op = 7) || decide (op = 21) || decide (op = 22) || decide (op = 23) || decide (op = 26) || decide (op = 27) || decide (op = 29) || decide (op = 31)
def opsA : Array Value := #[.bool false, .bool false, .bool false, .bool false, .bool false, .bool true, .bool true, .bool false, .bool false, .bool false, .bool false, .bool false, .bool false, .bool true, .bool false, .bool false, .bool false, .bool false, .bool false, .bool false, .bool true, .bool false, .bool false, .bool false, .bool false, .bool false, .bool false, .bool false, .bool false, .bool false, .bool true, .bool false, .bool false, .bool false, .bool false, .bool true, .bool false, .bool false, .bool false, .bool false, .bool false, .bool false, .bool false, .bool false, .bool false, .bool false, .bool false, .bool false, .bool false, .bool false, .bool false, .bool false, .bool false, .bool false, .bool false, .bool false, .bool false, .bool false, .bool false, .bool false, .bool false, .bool false, .bool false, .bool false, .bool false, .bool false, .bool false, .bool false, .bool false, .bool false, .bool false, .bool false, .bool false, .bool false, .bool false, .bool false, .bool false, .bool false, .bool false, .bool false, .bool false, .bool false, .bool false, .bool false, .bool false, .bool false, .bool false, .bool false, .bool false, .bool false, .bool false, .bool false, .bool false, .bool false, .bool false, .bool false, .bool false, .bool false, .bool false, .bool false, .bool false, .bool false, .bool false, .bool false, .bool false, .bool true, .bool false, .bool true, .bool false, .bool false, .bool true, .bool false, .bool false, .bool false, .bool true, .bool true, .bool false, .bool false, .bool false, .bool false, .bool false, .bool false, .bool false, .bool false, .bool false, .bool false, .bool false, .bool false, .bool false, .bool false, .bool true, .bool false, .bool false, .bool false, .bool false, .bool true, .bool false, .bool false, .bool false, .bool false, .bool false, .bool false, .bool false, .bool false, .bool false, .bool true, .bool false, .bool false, .bool false, .bool false, .bool false, .bool false, .bool false, .bool false, .bool false, .bool true, .bool false, .bool false, .bool false, .bool false]
theorem opsA_size : opsA.size = 160 := by kernel_rfl
theorem getO : ∀ (j : Nat), j < 32 → opsA[j * 5]? = some (.bool (hasA j)) ∧ opsA[j * 5 + 1]? = some (.bool (decide ((j : Int) = 1))) ∧ opsA[j * 5 + 2]? = some (.bool (decide ((j : Int) = 21))) ∧ opsA[j * 5 + 3]? = some (.bool (decide ((j : Int) = 2))) ∧ opsA[j * 5 + 4]? = some (.bool (decide ((j : Int) = 22)))
  | 0, _ => ⟨by kernel_rfl, by kernel_rfl, by kernel_rfl, by kernel_rfl, by kernel_rfl⟩
  | 1, _ => ⟨by kernel_rfl, by kernel_rfl, by kernel_rfl, by kernel_rfl, by kernel_rfl⟩
  | 2, _ => ⟨by kernel_rfl, by kernel_rfl, by kernel_rfl, by kernel_rfl, by kernel_rfl⟩
  | 3, _ => ⟨by kernel_rfl, by kernel_rfl, by kernel_rfl, by kernel_rfl, by kernel_rfl⟩
  | 4, _ => ⟨by kernel_rfl, by kernel_rfl, by kernel_rfl, by kernel_rfl, by kernel_rfl⟩
  | 5, _ => ⟨by kernel_rfl, by kernel_rfl, by kernel_rfl, by kernel_rfl, by kernel_rfl⟩
  | 6, _ => ⟨by kernel_rfl, by kernel_rfl, by kernel_rfl, by kernel_rfl, by kernel_rfl⟩
  | 7, _ => ⟨by kernel_rfl, by kernel_rfl, by kernel_rfl, by kernel_rfl, by kernel_rfl⟩
  | 8, _ => ⟨by kernel_rfl, by kernel_rfl, by kernel_rfl, by kernel_rfl, by kernel_rfl⟩
  | 9, _ => ⟨by kernel_rfl, by kernel_rfl, by kernel_rfl, by kernel_rfl, by kernel_rfl⟩
  | 10, _ => ⟨by kernel_rfl, by kernel_rfl, by kernel_rfl, by kernel_rfl, by kernel_rfl⟩
  | 11, _ => ⟨by kernel_rfl, by kernel_rfl, by kernel_rfl, by kernel_rfl, by kernel_rfl⟩
  | 12, _ => ⟨by kernel_rfl, by kernel_rfl, by kernel_rfl, by kernel_rfl, by kernel_rfl⟩
  | 13, _ => ⟨by kernel_rfl, by kernel_rfl, by kernel_rfl, by kernel_rfl, by kernel_rfl⟩
  | 14, _ => ⟨by kernel_rfl, by kernel_rfl, by kernel_rfl, by kernel_rfl, by kernel_rfl⟩
  | 15, _ => ⟨by kernel_rfl, by kernel_rfl, by kernel_rfl, by kernel_rfl, by kernel_rfl⟩
  | 16, _ => ⟨by kernel_rfl, by kernel_rfl, by kernel_rfl, by kernel_rfl, by kernel_rfl⟩
  | 17, _ => ⟨by kernel_rfl, by kernel_rfl, by kernel_rfl, by kernel_rfl, by kernel_rfl⟩
  | 18, _ => ⟨by kernel_rfl, by kernel_rfl, by kernel_rfl, by kernel_rfl, by kernel_rfl⟩
  | 19, _ => ⟨by kernel_rfl, by kernel_rfl, by kernel_rfl, by kernel_rfl, by kernel_rfl⟩
  | 20, _ => ⟨by kernel_rfl, by kernel_rfl, by kernel_rfl, by kernel_rfl, by kernel_rfl⟩
  | 21, _ => ⟨by kernel_rfl, by kernel_rfl, by kernel_rfl, by kernel_rfl, by kernel_rfl⟩
  | 22, _ => ⟨by kernel_rfl, by kernel_rfl, by kernel_rfl, by kernel_rfl, by kernel_rfl⟩
  | 23, _ => ⟨by kernel_rfl, by kernel_rfl, by kernel_rfl, by kernel_rfl, by kernel_rfl⟩
  | 24, _ => ⟨by kernel_rfl, by kernel_rfl, by kernel_rfl, by kernel_rfl, by kernel_rfl⟩
  | 25, _ => ⟨by kernel_rfl, by kernel_rfl, by kernel_rfl, by kernel_rfl, by kernel_rfl⟩
  | 26, _ => ⟨by kernel_rfl, by kernel_rfl, by kernel_rfl, by kernel_rfl, by kernel_rfl⟩
  | 27, _ => ⟨by kernel_rfl, by kernel_rfl, by kernel_rfl, by kernel_rfl, by kernel_rfl⟩
  | 28, _ => ⟨by kernel_rfl, by kernel_rfl, by kernel_rfl, by kernel_rfl, by kernel_rfl⟩
  | 29, _ => ⟨by kernel_rfl, by kernel_rfl, by kernel_rfl, by kernel_rfl, by kernel_rfl⟩
  | 30, _ => ⟨by kernel_rfl, by kernel_rfl, by kernel_rfl, by kernel_rfl, by kernel_rfl⟩
  | 31, _ => ⟨by kernel_rfl, by kernel_rfl, by kernel_rfl, by kernel_rfl, by kernel_rfl⟩
  | j + 32, h => absurd h (by omega)
/-- The table stands. -/
def OpsIn (w : World) : Prop := ∃ t fr, w.heap[0]? = some (.cells opsA t fr)
theorem OpsIn.none {w u : World} (h : OpsIn w) (k : w.grownBy u Option.none) : OpsIn u := by
  obtain ⟨t, fr, h⟩ := h
  exact ⟨t, fr, (k.block _ (lt_of_block h) (by simp)).trans h⟩
theorem cellsO {w : World} (h : OpsIn w) (j : Nat) (hj : j < 32) : w.cell? ⟨0, j * 5, none⟩ = some (.bool (hasA j)) ∧ w.cell? ⟨0, j * 5 + 1, none⟩ = some (.bool (decide ((j : Int) = 1))) ∧ w.cell? ⟨0, j * 5 + 2, none⟩ = some (.bool (decide ((j : Int) = 21))) ∧ w.cell? ⟨0, j * 5 + 3, none⟩ = some (.bool (decide ((j : Int) = 2))) ∧ w.cell? ⟨0, j * 5 + 4, none⟩ = some (.bool (decide ((j : Int) = 22))) := by
  obtain ⟨t, fr, h⟩ := h
  obtain ⟨q0, q1, q2, q3, q4⟩ := getO j hj
  exact ⟨(cell_of_row w _ _ _ t fr h).trans q0, (cell_of_row w _ _ _ t fr h).trans q1, (cell_of_row w _ _ _ t fr h).trans q2, (cell_of_row w _ _ _ t fr h).trans q3, (cell_of_row w _ _ _ t fr h).trans q4⟩
def opOk (op : Int) : Bool := decide (0 ≤ op) && decide (op ≤ 31)
/-- What an op has. -/
def FoO (op : Int) (e : Ending) : Prop := e = .returned (.tuple #[.agg #[.bool (opOk op && hasA op), .bool (opOk op && decide (op = 1)), .bool (opOk op && decide (op = 21)), .bool (opOk op && decide (op = 2)), .bool (opOk op && decide (op = 22))], .bool (opOk op)])

theorem blk5 {w : World} {g : Nat} {t : TypeId} {v0 v1 v2 v3 v4 : Value} (h : w.heap[g]? = some (.cells #[v0, v1, v2, v3, v4] t (0, 0))) : (w.cell? ⟨g, 0, none⟩ = some v0 ∧ w.cell? ⟨g, 1, none⟩ = some v1 ∧ w.cell? ⟨g, 2, none⟩ = some v2 ∧ w.cell? ⟨g, 3, none⟩ = some v3 ∧ w.cell? ⟨g, 4, none⟩ = some v4) ∧ ∀ j, w.frozen? ⟨g, j, none⟩ = false := by
  refine ⟨⟨?_, ?_, ?_, ?_, ?_⟩, fun j => frozen_of_row w g _ _ t h⟩ <;> (rw [cell_of_row w g _ _ t (0, 0) h]; rfl)
theorem results_cell2O {P : Program} {fn : Func} {p u : Tmp} {ty : TypeId} (h : fn.results = #[.cell p ty, .tmp u]) (tmps : Array Value) (w : World) (g : Nat) (t : TypeId) (cs : Array Value) (fr : Nat × Nat) (d : TypeDesc)
    (hp : tmps.getD p undef = .pointer (some ⟨g, 0, none⟩)) (hg : w.heap[g]? = some (.cells cs t fr))
    (hu : P.underlying ty = some d) (hd : (match d with | .struct _ | .array _ _ => true | _ => false) = true) (hi : (P.info? ty).map (·.size) = some cs.size) :
    (results fn tmps).run P w = .ok (.tuple #[.agg cs, tmps.getD u undef]) w := by
  have hp' : tmps[p]?.getD undef = .pointer (some ⟨g, 0, none⟩) := by simpa using hp
  simp [results, h, hp', asAddr, run_loadVar_row w g t ty cs fr d hg hu hd hi]

set_option maxHeartbeats 2000000 in
theorem formOfOpT (op : Int) (w : World) (hF : OpsIn w) :
    Calls Tryd.prog 16 #[.int .i64 op] w fun e u => FoO op e ∧ w.grownBy u none := by
  have b0 := heap_alloc_new w (.cells #[.bool false, .bool false, .bool false, .bool false, .bool false] 40)
  have g0 := World.grownBy_alloc w (.cells #[.bool false, .bool false, .bool false, .bool false, .bool false] 40) none
  have hf0 := hF.none g0
  have L0 : Hid (w.grownBy _ none ∧ _ = some (Obj.cells #[.bool false, .bool false, .bool false, .bool false, .bool false] 40)) := ⟨g0, b0⟩
  obtain ⟨⟨y0, y1, y2, y3, y4⟩, hfy⟩ := blk5 b0
  have f0 := hfy 0
  have f1 := hfy 1
  have f2 := hfy 2
  have f3 := hfy 3
  have f4 := hfy 4
  clear hF g0 b0 hfy
  by_cases h1 : op < 0
  · have HE : Hid (opOk op = false) := by show _ = _; simp [opOk]; omega
    clear hf0
    go_enter Tryd.func16, Tryd.ntmps16
    go_wp2
    refine bodyPost_ret (results_cell2O (P := Tryd.prog) Tryd.results16 _ _ _ _ _ _ _ rfl L0.out.2 Tryd.underlying40 rfl (by kernel_rfl)) rfl ?_
    exact ⟨by unfold FoO; rw [HE.out]; rfl, L0.out.1⟩
  by_cases h2 : op > 31
  · have HE : Hid (opOk op = false) := by show _ = _; simp [opOk]; omega
    clear hf0
    go_enter Tryd.func16, Tryd.ntmps16
    go_wp2
    refine bodyPost_ret (results_cell2O (P := Tryd.prog) Tryd.results16 _ _ _ _ _ _ _ rfl L0.out.2 Tryd.underlying40 rfl (by kernel_rfl)) rfl ?_
    exact ⟨by unfold FoO; rw [HE.out]; rfl, L0.out.1⟩
  obtain ⟨j, rfl⟩ : ∃ j : Nat, op = (j : Int) := ⟨op.toNat, by omega⟩
  have HE : Hid (opOk j = true) := by show _ = _; simp [opOk]; omega
  obtain ⟨q0, q1, q2, q3, q4⟩ := cellsO hf0 j (by omega)
  obtain ⟨x0, hx0⟩ : ∃ x, hasA j = x := ⟨_, rfl⟩
  obtain ⟨x1, hx1⟩ : ∃ x, decide ((j : Int) = 1) = x := ⟨_, rfl⟩
  obtain ⟨x2, hx2⟩ : ∃ x, decide ((j : Int) = 21) = x := ⟨_, rfl⟩
  obtain ⟨x3, hx3⟩ : ∃ x, decide ((j : Int) = 2) = x := ⟨_, rfl⟩
  obtain ⟨x4, hx4⟩ : ∃ x, decide ((j : Int) = 22) = x := ⟨_, rfl⟩
  rw [hx0] at q0
  rw [hx1] at q1
  rw [hx2] at q2
  rw [hx3] at q3
  rw [hx4] at q4
  have HF5 : Hid _ := fill5 (.bool x0) (.bool x1) (.bool x2) (.bool x3) (.bool x4) L0.out.2
  have GG : Hid (FoO j (.returned (.tuple #[.agg #[.bool x0, .bool x1, .bool x2, .bool x3, .bool x4], .bool true]))) := by
    show FoO _ _
    unfold FoO
    rw [HE.out, hx0, hx1, hx2, hx3, hx4]
    simp only [Bool.true_and]
  clear HE hf0 hx0 hx1 hx2 hx3 hx4
  go_enter Tryd.func16, Tryd.ntmps16
  go_upto_region 3 with fail
  have G9 : Hid (w.grownBy _ none ∧ w.heap.size ≤ w.heap.size) := ⟨L0.out.1, Nat.le_refl _⟩
  clear L0
  generalize w.alloc (.cells #[.bool false, .bool false, .bool false, .bool false, .bool false] 40) = u at *
  generalize hp : w.heap.size = p at *
  have HP : Hid (w.heap.size = p) := hp
  clear hp
  go_wp2
  refine bodyPost_ret (results_cell2O (P := Tryd.prog) Tryd.results16 _ _ _ _ _ _ _ rfl HF5.out.1 Tryd.underlying40 rfl (by kernel_rfl)) rfl ?_
  exact ⟨GG.out, grown_into G9.out.1 HF5.out.2 (Nat.le_of_eq HP.out)⟩

end Go.Proofs.YtmjbnalhimhgnaaDoor.By
