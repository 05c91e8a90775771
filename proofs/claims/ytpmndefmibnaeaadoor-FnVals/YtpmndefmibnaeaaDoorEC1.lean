/-
  What is kept where lower blocks, and all that are frozen or no cells, are hidden. No statement is proved here.
-/
import Derived.Test.YtpmndefmibnaeaaDoorEC0
import Derived.Test.YtpmndefmibnaeaaDoorGI
namespace Go.Proofs.YtpmndefmibnaeaaDoor.By
open Go.RowKit
set_option linter.unusedVariables false
set_option linter.unusedSimpArgs false

def isPl : Obj → Bool
  | .cells _ _ fr => decide (fr = (0, 0))
  | _ => false
/-- A world with all blocks below lo, and all that are frozen or no cells, made empty. -/
def hideZ (w : World) (lo : Nat) : World := { w with heap := w.heap.mapIdx fun i o => if lo ≤ i ∧ isPl o = true then o else .map #[] 0 }
theorem hideZ_heap {w : World} {lo i : Nat} {cur : Array Value} {t : TypeId} (h : lo ≤ i) (hb : w.heap[i]? = some (.cells cur t (0, 0))) : (hideZ w lo).heap[i]? = some (.cells cur t (0, 0)) := by
  unfold hideZ
  rw [Array.getElem?_mapIdx, hb]
  simp [h, isPl]
theorem hideZ_inv {w : World} {lo : Nat} {p : Addr} {v : Value} (h : (hideZ w lo).cell? p = some v) : lo ≤ p.block ∧ w.cell? p = some v ∧ ∃ cur t, w.heap[p.block]? = some (.cells cur t (0, 0)) := by
  have key : ((hideZ w lo).heap[p.block]? = none ∨ (hideZ w lo).heap[p.block]? = some (.map #[] 0)) ∨ (lo ≤ p.block ∧ ∃ cur t, w.heap[p.block]? = some (.cells cur t (0, 0))) := by
    unfold hideZ
    rw [Array.getElem?_mapIdx]
    cases hb : w.heap[p.block]? with
    | none => exact .inl (.inl rfl)
    | some o =>
      by_cases hc : lo ≤ p.block ∧ isPl o = true
      · refine .inr ⟨hc.1, ?_⟩
        cases o with
        | cells cur t fr =>
          have := hc.2
          simp only [isPl, decide_eq_true_eq] at this
          subst this
          exact ⟨cur, t, rfl⟩
        | _ => exact absurd hc.2 (by simp [isPl])
      · refine .inl (.inr ?_)
        show some (if lo ≤ p.block ∧ isPl o = true then o else .map #[] 0) = _
        rw [if_neg hc]
  obtain ⟨b, off, s⟩ := p
  rcases key with (e | e) | ⟨h1, cur, t, h2⟩
  · simp [World.cell?, e] at h
  · simp [World.cell?, e] at h
  · refine ⟨h1, ?_, cur, t, h2⟩
    rw [← h]
    exact (cell_any (p := ⟨b, off, s⟩) ((hideZ_heap h1 h2).trans h2.symm)).symm
theorem CLe.hidz {u u' : World} {lo lo' : Nat} (hl : lo' ≤ lo) (h : ∀ i, lo ≤ i → i < u.heap.size → u'.heap[i]? = u.heap[i]?) : CLe (hideZ u lo) (hideZ u' lo') := by
  intro p v hv
  obtain ⟨h1, h2, cur, t, h3⟩ := hideZ_inv hv
  have e := h p.block h1 (lt_of_block h3)
  have h4 := hideZ_heap (w := u') (Nat.le_trans hl h1) (e.trans h3)
  rw [cell_any (w := u) (h4.trans h3.symm)]
  exact h2
theorem CLe.unhidz {u : World} {lo : Nat} : CLe (hideZ u lo) u := fun p v hv => (hideZ_inv hv).2.1
theorem Row.hiz {w : World} {g n lo : Nat} {zs : List Int} (h : Row w g n zs) (hz : Byt zs) (hl : zs.length = n) (hn : n ≤ 1048576) (hg : lo ≤ g) : RdB (hideZ w lo) (some ⟨g, 0, none⟩) n zs := by
  obtain ⟨cur, hc, hr⟩ := h
  have h2 : Row (hideZ w lo) g n zs := ⟨cur, hideZ_heap hg hc, hr⟩
  exact ⟨h2.reads' hl, hz, by omega⟩
theorem RowI.hizn {w : World} {t : TypeId} {g n lo : Nat} {zs : List Int} (h : RowI w t g n zs) (hl : zs.length = n) (hn : n ≤ 1048576) (hg : lo ≤ g) : RdI (hideZ w lo) (some ⟨g, 0, none⟩) n zs := by
  obtain ⟨cur, hc, hr⟩ := h
  have h2 : RowI (hideZ w lo) t g n zs := ⟨cur, hideZ_heap hg hc, hr⟩
  exact ⟨h2.reads' hl, by omega⟩
theorem SlO.blkz {w : World} {t : TypeId} {f : F} {a : Option Addr} {l c : Nat} {bs : List Nat} (h : SlO w t a l c f bs) : ∀ g ∈ bs, ∃ cur, w.heap[g]? = some (.cells cur t (0, 0)) := by
  have key : ∀ (f : F) (b off : Nat) (bs : List Nat), OwnF w t f b off bs → ∀ g ∈ bs, ∃ cur, w.heap[g]? = some (.cells cur t (0, 0)) := by
    intro f
    induction f with
    | nil => intro b off bs h g hg; rw [show bs = [] from h] at hg; simp at hg
    | cons k n d r ihd ihr =>
      intro b off bs h g hg
      obtain ⟨bs1, bs2, rfl, ⟨a, l, c, h0, h1, h2, h3, h4, h5, h6⟩, hr⟩ := h
      rcases List.mem_append.1 hg with hg | hg
      · rcases h6 with ⟨_, rfl⟩ | ⟨g', bs', _, _, rfl, ⟨cur, hb, _⟩, h6⟩
        · simp at hg
        · rcases List.mem_cons.1 hg with rfl | hg
          · exact ⟨cur, hb⟩
          · exact ihd _ _ _ h6 g hg
      · exact ihr _ _ _ hr g hg
  obtain ⟨h1, h2, h3, h4⟩ := h
  intro g hg
  rcases h4 with ⟨_, rfl⟩ | ⟨g', bs', _, _, rfl, ⟨cur, hb, _⟩, h6⟩
  · simp at hg
  · rcases List.mem_cons.1 hg with rfl | hg
    · exact ⟨cur, hb⟩
    · exact key _ _ _ _ h6 g hg
theorem New.hiz {w u : World} {t : TypeId} {a : Option Addr} {l c lo : Nat} {f : F} {bs : List Nat} (h : New w u t a l c f bs) (hl : lo ≤ w.heap.size) : SlF (hideZ u lo) a l f :=
  (h.1.of (w' := hideZ u lo) (fun x hx => by
    obtain ⟨cur, hc⟩ := h.1.blkz x hx
    exact (hideZ_heap (Nat.le_trans hl (h.2.2 x hx)) hc).trans hc.symm)).reads
theorem hideZ_cell {w : World} {lo i j k : Nat} {t : TypeId} (h : lo ≤ i) (hB : BlkN w t i k) : (hideZ w lo).cell? ⟨i, j, none⟩ = w.cell? ⟨i, j, none⟩ := by
  obtain ⟨cur, hc, _⟩ := hB
  exact cell_any (p := ⟨i, j, none⟩) ((hideZ_heap h hc).trans hc.symm)
theorem hiz_grown {w u : World} {lo : Nat} (h : w.grownBy u none) : CLe (hideZ w lo) (hideZ u lo) := CLe.hidz (Nat.le_refl _) (fun i _ h2 => h.block i h2 (by simp))
theorem hiz_into {w u : World} {lo p : Nat} (h : w.grownBy u (some p)) (hp : p < lo) : CLe (hideZ w lo) (hideZ u lo) := CLe.hidz (Nat.le_refl _) (fun i h1 h2 => h.block i h2 (by simp; omega))
theorem hiz_low {w : World} {lo lo' : Nat} (h : lo' ≤ lo) : CLe (hideZ w lo) (hideZ w lo') := CLe.hidz h (fun _ _ _ => rfl)
end Go.Proofs.YtpmndefmibnaeaaDoor.By
