/-
  What is kept where lower blocks are hidden; blocks of cells. No statement is proved here.
-/
import Derived.Test.YtpmndefmibnaeaaDoorEB
import Derived.Test.YtpmndefmibnaeaaDoorHelp
import Derived.Test.YtpmndefmibnaeaaDoorTCopy
namespace Go.Proofs.YtpmndefmibnaeaaDoor.By
open Go.RowKit
set_option linter.unusedVariables false
set_option linter.unusedSimpArgs false

theorem cell_any {w u : World} {p : Addr} (e : u.heap[p.block]? = w.heap[p.block]?) : u.cell? p = w.cell? p := by
  unfold World.cell?; rw [e]
theorem CLe.hide {u u' : World} {lo lo' : Nat} (hl : lo' ≤ lo) (h : ∀ i, lo ≤ i → i < u.heap.size → u'.heap[i]? = u.heap[i]?) : CLe (hideW u lo) (hideW u' lo') := by
  intro p v hv
  by_cases hp : p.block < lo
  · obtain ⟨b, off, s⟩ := p
    have e : (hideW u lo).heap[b]? = none ∨ (hideW u lo).heap[b]? = some (.map #[] 0) := by
      unfold hideW
      rw [Array.getElem?_mapIdx]
      simp only [if_pos hp]
      cases u.heap[b]? with
      | none => exact .inl rfl
      | some o => exact .inr rfl
    rcases e with e | e <;> simp [World.cell?, e] at hv
  · have e1 := hideW_heap (w := u) (lo := lo) (i := p.block) (by omega)
    have e2 := hideW_heap (w := u') (lo := lo') (i := p.block) (by omega)
    have hs : p.block < u.heap.size := by
      by_cases hs : p.block < u.heap.size
      · exact hs
      · have : u.heap[p.block]? = none := Array.getElem?_eq_none (by omega)
        rw [this] at e1
        simp [World.cell?, e1] at hv
    rw [cell_any (e2.trans ((h p.block (by omega) hs).trans e1.symm))]
    exact hv
theorem CLe.unhide {u : World} {lo : Nat} : CLe (hideW u lo) u := by
  intro p v hv
  have := CLe.hide (u := u) (u' := u) (lo := lo) (lo' := 0) (Nat.zero_le _) (fun _ _ _ => rfl) p v hv
  rw [cell_any (w := u) (hideW_heap (Nat.zero_le _))] at this
  exact this
theorem Row.hid {w : World} {g n lo : Nat} {zs : List Int} (h : Row w g n zs) (hz : Byt zs) (hl : zs.length = n) (hn : n ≤ 1048576) (hg : lo ≤ g) : RdB (hideW w lo) (some ⟨g, 0, none⟩) n zs :=
  ⟨(h.of_block (hideW_heap hg)).reads' hl, hz, by omega⟩
theorem New.hid {w u : World} {t : TypeId} {a : Option Addr} {l c lo : Nat} {f : F} {bs : List Nat} (h : New w u t a l c f bs) (hl : lo ≤ w.heap.size) : SlF (hideW u lo) a l f :=
  (h.1.of (w' := hideW u lo) (fun x hx => hideW_heap (Nat.le_trans hl (h.2.2 x hx)))).reads
/-- A block of k cells. -/
def BlkN (w : World) (t : TypeId) (g k : Nat) : Prop := ∃ cur : Array Value, w.heap[g]? = some (.cells cur t (0, 0)) ∧ cur.size = k
theorem BlkN.lt {w : World} {t : TypeId} {g k : Nat} (h : BlkN w t g k) : g < w.heap.size := by obtain ⟨_, h, _⟩ := h; exact lt_of_block h
theorem BlkN.of {w u : World} {t : TypeId} {g k : Nat} (h : BlkN w t g k) (e : u.heap[g]? = w.heap[g]?) : BlkN u t g k := by obtain ⟨c, h, h2⟩ := h; exact ⟨c, e.trans h, h2⟩
theorem BlkN.has {w : World} {t : TypeId} {g k : Nat} (h : BlkN w t g k) (j : Nat) (hj : j < k) : ∃ v, w.cell? ⟨g, j, none⟩ = some v := by
  obtain ⟨c, h, h2⟩ := h
  rw [cell_of_row w g j c t (0, 0) h]
  exact ⟨c[j]'(by omega), by simp [h2, hj]⟩
theorem BlkN.free {w : World} {t : TypeId} {g k : Nat} (h : BlkN w t g k) (j : Nat) : w.frozen? ⟨g, j, none⟩ = false := by
  obtain ⟨c, h, h2⟩ := h
  exact frozen_of_row w g _ _ t h
theorem BlkN.set {w : World} {t : TypeId} {g k : Nat} (h : BlkN w t g k) (j : Nat) (hj : j < k) (v : Value) : BlkN (w.setCell ⟨g, j, none⟩ v) t g k ∧ w.grownBy (w.setCell ⟨g, j, none⟩ v) (some g) ∧ (w.setCell ⟨g, j, none⟩ v).cell? ⟨g, j, none⟩ = some v ∧ ∀ i, i ≠ j → (w.setCell ⟨g, j, none⟩ v).cell? ⟨g, i, none⟩ = w.cell? ⟨g, i, none⟩ := by
  obtain ⟨c, h, h2⟩ := h
  have hs := heap_setCell_same w g j c t v h
  refine ⟨⟨_, hs, by simpa using h2⟩, grown_setCell _ _ _ _, ?_, fun i hi => ?_⟩
  · rw [cell_of_row _ g j _ t (0, 0) hs]; simp [h2, hj]
  · rw [cell_of_row _ g i _ t (0, 0) hs, cell_of_row w g i _ t (0, 0) h]
    simp [Array.getElem?_setIfInBounds, Ne.symm hi]
theorem hid_grown {w u : World} {lo : Nat} (h : w.grownBy u none) : CLe (hideW w lo) (hideW u lo) := CLe.hide (Nat.le_refl _) (fun i _ h2 => h.block i h2 (by simp))
theorem hid_into {w u : World} {lo p : Nat} (h : w.grownBy u (some p)) (hp : p < lo) : CLe (hideW w lo) (hideW u lo) := CLe.hide (Nat.le_refl _) (fun i h1 h2 => h.block i h2 (by simp; omega))
theorem hid_low {w : World} {lo lo' : Nat} (h : lo' ≤ lo) : CLe (hideW w lo) (hideW w lo') := CLe.hide h (fun _ _ _ => rfl)
end Go.Proofs.YtpmndefmibnaeaaDoor.By
