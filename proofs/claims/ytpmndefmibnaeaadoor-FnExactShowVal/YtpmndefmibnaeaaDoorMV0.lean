/-
  Marks within a range of blocks: what they leave as it was; rows. No statement is proved here.
-/
import Derived.Test.YtpmndefmibnaeaaDoorVB
import Derived.Deep.DeepCutAuto
namespace Go.Proofs.YtpmndefmibnaeaaDoor.By
open Go.RowKit
set_option linter.unusedVariables false
set_option linter.unusedSimpArgs false

/-- A world with all blocks outside lo .. hi - 1, and all that are frozen or no cells, made empty. -/
def hideR (w : World) (lo hi : Nat) : World := { w with heap := w.heap.mapIdx fun i o => if (lo ≤ i ∧ i < hi) ∧ isPl o = true then o else .map #[] 0 }
theorem hideR_heap {w : World} {lo hi i : Nat} {cur : Array Value} {t : TypeId} (h : lo ≤ i) (h2 : i < hi) (hb : w.heap[i]? = some (.cells cur t (0, 0))) : (hideR w lo hi).heap[i]? = some (.cells cur t (0, 0)) := by
  unfold hideR
  rw [Array.getElem?_mapIdx, hb]
  simp [h, h2, isPl]
theorem hideR_inv {w : World} {lo hi : Nat} {p : Addr} {v : Value} (h : (hideR w lo hi).cell? p = some v) : (lo ≤ p.block ∧ p.block < hi) ∧ w.cell? p = some v ∧ ∃ cur t, w.heap[p.block]? = some (.cells cur t (0, 0)) := by
  have key : ((hideR w lo hi).heap[p.block]? = none ∨ (hideR w lo hi).heap[p.block]? = some (.map #[] 0)) ∨ ((lo ≤ p.block ∧ p.block < hi) ∧ ∃ cur t, w.heap[p.block]? = some (.cells cur t (0, 0))) := by
    unfold hideR
    rw [Array.getElem?_mapIdx]
    cases hb : w.heap[p.block]? with
    | none => exact .inl (.inl rfl)
    | some o =>
      by_cases hc : (lo ≤ p.block ∧ p.block < hi) ∧ isPl o = true
      · refine .inr ⟨hc.1, ?_⟩
        cases o with
        | cells cur t fr =>
          have := hc.2
          simp only [isPl, decide_eq_true_eq] at this
          subst this
          exact ⟨cur, t, rfl⟩
        | _ => exact absurd hc.2 (by simp [isPl])
      · refine .inl (.inr ?_)
        show some (if (lo ≤ p.block ∧ p.block < hi) ∧ isPl o = true then o else .map #[] 0) = _
        rw [if_neg hc]
  obtain ⟨b, off, s⟩ := p
  rcases key with (e | e) | ⟨h1, cur, t, h2⟩
  · simp [World.cell?, e] at h
  · simp [World.cell?, e] at h
  · refine ⟨h1, ?_, cur, t, h2⟩
    rw [← h]
    exact (cell_any (p := ⟨b, off, s⟩) ((hideR_heap h1.1 h1.2 h2).trans h2.symm)).symm
theorem CLe.toR {w u : World} {lo : Nat} (h : w.grownBy u none) : CLe (hideZ w lo) (hideR u lo w.heap.size) := by
  intro p v hv
  obtain ⟨h1, h2, cur, t, h3⟩ := hideZ_inv hv
  have e := h.block p.block (lt_of_block h3) (by simp)
  have h4 := hideR_heap (w := u) (hi := w.heap.size) h1 (lt_of_block h3) (e.trans h3)
  rw [cell_any (w := w) (h4.trans h3.symm)]
  exact h2
/-- What a mark leaves of a value: the same, or another number of the same kind. -/
def Like (v v' : Value) : Prop := v' = v ∨ ∃ k z z', v = .int k z ∧ v' = .int k z'
theorem Like.trans {a b c : Value} (h : Like a b) (k : Like b c) : Like a c := by
  rcases h with rfl | ⟨k1, z, z', rfl, rfl⟩
  · exact k
  · rcases k with rfl | ⟨k2, y, y', e, rfl⟩
    · exact .inr ⟨_, _, _, rfl, rfl⟩
    · injection e with e1 e2; subst e1; exact .inr ⟨_, _, _, rfl, rfl⟩
def CLk (w u : World) : Prop := ∀ p v, w.cell? p = some v → ∃ v', u.cell? p = some v' ∧ Like v v'
theorem CLk.int {w u : World} (h : CLk w u) {p : Addr} {k : IntKind} (hc : ∃ z, w.cell? p = some (.int k z)) : ∃ z, u.cell? p = some (.int k z) := by
  obtain ⟨z, hc⟩ := hc
  obtain ⟨v', h1, h2⟩ := h _ _ hc
  rcases h2 with rfl | ⟨k1, y, y', e, rfl⟩
  · exact ⟨z, h1⟩
  · injection e with e1 e2; subst e1; exact ⟨y', h1⟩
theorem CLk.slice {w u : World} (h : CLk w u) {p : Addr} {a : Option Addr} {l c : Nat} (hc : w.cell? p = some (.slice a l c)) : u.cell? p = some (.slice a l c) := by
  obtain ⟨v', h1, h2⟩ := h _ _ hc
  rcases h2 with rfl | ⟨k1, y, y', e, rfl⟩
  · exact h1
  · cases e
/-- Nothing has turned but numbers in plain blocks from lo to hi - 1. -/
structure Mk (lo hi : Nat) (w u : World) : Prop where
  like : CLk (hideR w lo hi) (hideR u lo hi)
  os : u.os = w.os
  tape : u.tape = w.tape
  output : u.output = w.output
  size : w.heap.size ≤ u.heap.size
  block : ∀ i, i < w.heap.size → (i < lo ∨ hi ≤ i) → u.heap[i]? = w.heap[i]?
theorem CLe.lk {w u : World} (h : CLe w u) : CLk w u := fun p v hv => ⟨v, h p v hv, .inl rfl⟩
theorem Mk.refl (lo hi : Nat) (w : World) : Mk lo hi w w := ⟨fun p v hv => ⟨v, hv, .inl rfl⟩, rfl, rfl, rfl, Nat.le_refl _, fun _ _ _ => rfl⟩
theorem Mk.trans {lo hi : Nat} {a b c : World} (h : Mk lo hi a b) (k : Mk lo hi b c) : Mk lo hi a c :=
  ⟨fun p v hv => by
    obtain ⟨v1, h1, h2⟩ := h.like p v hv
    obtain ⟨v2, h3, h4⟩ := k.like p v1 h1
    exact ⟨v2, h3, h2.trans h4⟩, k.os.trans h.os, k.tape.trans h.tape, k.output.trans h.output, Nat.le_trans h.size k.size, fun i hi hn => (k.block i (Nat.lt_of_lt_of_le hi h.size) hn).trans (h.block i hi hn)⟩
theorem Mk.grown {lo hi : Nat} {w u : World} (h : w.grownBy u none) : Mk lo hi w u :=
  ⟨fun p v hv => by
    obtain ⟨h1, h2, cur, t, h3⟩ := hideR_inv hv
    have e := h.block p.block (lt_of_block h3) (by simp)
    refine ⟨v, ?_, .inl rfl⟩
    rw [cell_any (w := w) ((hideR_heap (w := u) h1.1 h1.2 (e.trans h3)).trans h3.symm)]
    exact h2, h.os, h.tape, h.output, h.size, fun i hi _ => h.block i hi (by simp)⟩
theorem Mk.set {lo hi : Nat} {w : World} {b off : Nat} {k : IntKind} {z : Int} (h : (hideR w lo hi).cell? ⟨b, off, none⟩ = some (.int k z)) (z' : Int) : Mk lo hi w (w.setCell ⟨b, off, none⟩ (.int k z')) := by
  obtain ⟨h1, h2, cur, t, h3⟩ := hideR_inv h
  have hs := heap_setCell_same w b off cur t (.int k z') h3
  have kk := grown_setCell w b off (.int k z')
  have h2' : cur[off]? = some (.int k z) := by rw [cell_of_row w b off cur t (0, 0) h3] at h2; exact h2
  refine ⟨fun p v hv => ?_, kk.os, kk.tape, kk.output, kk.size, fun i hi hn => kk.block i hi (by simp at h1 ⊢; omega)⟩
  obtain ⟨g1, g2, cur2, t2, g3⟩ := hideR_inv hv
  obtain ⟨pb, po, ps⟩ := p
  have hps : ps = none := World.cell?_spot g2
  subst hps
  by_cases hb : pb = b
  · subst hb
    have hh := hideR_heap (w := w.setCell ⟨pb, off, none⟩ (.int k z')) g1.1 g1.2 hs
    rw [cell_of_row _ pb po _ t (0, 0) hh]
    rw [cell_of_row w pb po cur t (0, 0) h3] at g2
    by_cases ho : po = off
    · subst ho
      rw [h2'] at g2
      injection g2 with g2
      subst g2
      have hlt : po < cur.size := by
        by_cases hlt : po < cur.size
        · exact hlt
        · rw [Array.getElem?_eq_none (by omega)] at h2'; cases h2'
      exact ⟨.int k z', by simp [hlt], .inr ⟨_, _, _, rfl, rfl⟩⟩
    · exact ⟨v, by rw [Array.getElem?_setIfInBounds_ne (by omega)]; exact g2, .inl rfl⟩
  · have e := kk.block pb (lt_of_block g3) (by simp; omega)
    refine ⟨v, ?_, .inl rfl⟩
    rw [cell_any (w := w) ((hideR_heap (w := w.setCell ⟨b, off, none⟩ (.int k z')) g1.1 g1.2 (e.trans g3)).trans g3.symm)]
    exact g2
theorem Mk.fresh {lo hi : Nat} {a w u : World} (h : a.grownBy w none) (k : Mk lo hi w u) (hb : a.heap.size ≤ lo) : a.grownBy u none :=
  ⟨k.os.trans h.os, k.tape.trans h.tape, k.output.trans h.output, Nat.le_trans h.size k.size, fun i hi _ => (k.block i (Nat.lt_of_lt_of_le hi h.size) (.inl (by omega))).trans (h.block i hi (by simp))⟩
/-- A cell that may be marked: what it holds, and that it may be written. -/
theorem hideR_open {w : World} {lo hi : Nat} {b off : Nat} {v : Value} (h : (hideR w lo hi).cell? ⟨b, off, none⟩ = some v) : w.cell? ⟨b, off, none⟩ = some v ∧ w.frozen? ⟨b, off, none⟩ = false := by
  obtain ⟨_, h2, cur, t, h3⟩ := hideR_inv h
  exact ⟨h2, frozen_of_row w b _ _ t h3⟩

/-- How a row of numbers lies. -/
def ShI (w : World) (k : IntKind) (a : Option Addr) (l : Nat) : Prop := l ≤ 9223372036854775807 ∧ (l = 0 ∨ ∃ b o, a = some ⟨b, o, none⟩ ∧ ∀ i, i < l → ∃ z, w.cell? ⟨b, o + i, none⟩ = some (.int k z))
theorem ShI.like {w u : World} {k : IntKind} {a : Option Addr} {l : Nat} (h : ShI w k a l) (hk : CLk w u) : ShI u k a l := by
  obtain ⟨h1, h2⟩ := h
  refine ⟨h1, ?_⟩
  rcases h2 with h2 | ⟨b, o, e, h2⟩
  · exact .inl h2
  · exact .inr ⟨b, o, e, fun i hi => hk.int (h2 i hi)⟩
def ShN (w : World) (k : IntKind) (a : Option Addr) (l n : Nat) : Prop := ShI w k a l ∧ l = n
theorem ShN.like {w u : World} {k : IntKind} {a : Option Addr} {l n : Nat} (h : ShN w k a l n) (hk : CLk w u) : ShN u k a l n := ⟨h.1.like hk, h.2⟩
theorem RdB.sh {w : World} {a : Option Addr} {l : Nat} {zs : List Int} (h : RdB w a l zs) : ShI w .u8 a l := by
  obtain ⟨⟨h1, h2⟩, h3, h4⟩ := h
  refine ⟨h4, ?_⟩
  rcases h2 with h2 | ⟨b, o, e, h2⟩
  · exact .inl h2
  · exact .inr ⟨b, o, e, fun i hi => ⟨_, h2 i hi⟩⟩
theorem RdI.sh {w : World} {a : Option Addr} {l : Nat} {zs : List Int} (h : RdI w a l zs) : ShI w .i64 a l := by
  obtain ⟨⟨h1, h2⟩, h4⟩ := h
  refine ⟨h4, ?_⟩
  rcases h2 with h2 | ⟨b, o, e, h2⟩
  · exact .inl h2
  · exact .inr ⟨b, o, e, fun i hi => ⟨_, h2 i hi⟩⟩
theorem hir_grown {w u : World} {lo hi : Nat} (h : w.grownBy u none) : CLe (hideR w lo hi) (hideR u lo hi) := fun p v hv => by
  obtain ⟨h1, h2, cur, t, h3⟩ := hideR_inv hv
  have e := h.block p.block (lt_of_block h3) (by simp)
  rw [cell_any (w := w) ((hideR_heap (w := u) h1.1 h1.2 (e.trans h3)).trans h3.symm)]
  exact h2
theorem CLe.unhir {u : World} {lo hi : Nat} : CLe (hideR u lo hi) u := fun p v hv => (hideR_inv hv).2.1

set_option maxRecDepth 8000 in
set_option maxHeartbeats 2000000 in
theorem mrB (lo hi : Nat) (a : Option Addr) (l c : Nat) (k0 : Int) (w : World) (h : ShI (hideR w lo hi) .u8 a l) (hk0 : 0 ≤ k0) (hk1 : k0 + 4 * (l : Nat) ≤ 4611686018427387904) :
    Calls Tryd.prog 16 #[.slice a l c, .int .i64 k0] w fun e u => ∃ k' : Int, e = .returned (.int .i64 k') ∧ k0 ≤ k' ∧ k' ≤ k0 + 4 * (l : Nat) ∧ Mk lo hi w u := by
  obtain ⟨hl, hx⟩ := h
  by_cases hl0 : l = 0
  · subst hl0
    clear hx
    go_enter Tryd.func16, Tryd.ntmps16
    go_wp2
    refine wp_loop_rounds 1 ?_
    rw [rounds_succ]
    go_wp2
    go_ret
    exact ⟨k0, rfl, Int.le_refl _, by omega, Mk.refl _ _ _⟩
  obtain ⟨b, o, rfl, hin⟩ : ∃ b o, a = some ⟨b, o, none⟩ ∧ ∀ i, i < l → ∃ z, (hideR w lo hi).cell? ⟨b, o + i, none⟩ = some (.int .u8 z) := by
    rcases hx with h | h
    · exact absurd h hl0
    · exact h
  have IN : Hid (∀ i, i < l → ∃ z, (hideR w lo hi).cell? ⟨b, o + i, none⟩ = some (.int .u8 z)) := hin
  clear hin hx
  go_enter Tryd.func16, Tryd.ntmps16
  go_wp2
  go_loopw [1, 5] (fun v i wr => ∃ (j : Nat), j ≤ l ∧ i = .int .i64 j ∧ v = .int .i64 (k0 + (j : Int)) ∧ Hid (Mk lo hi w wr)) (fun _ i _ => l - (intOf i).toNat)
  case atStart => exact ⟨0, Nat.zero_le _, rfl, by simp, Mk.refl _ _ _⟩
  case round =>
    obtain ⟨j, hj, rfl, rfl, HR⟩ := hrel
    by_cases hlt : j < l
    · obtain ⟨z, d0⟩ := HR.out.like.int (IN.out j hlt)
      have dv := (hideR_open d0).1
      have ff := (hideR_open d0).2
      have hj0 : (0 : Int) ≤ (j : Int) := by omega
      have hj1 : (j : Int) < (l : Int) := by omega
      have M1 : Hid (Mk lo hi w (wr.setCell ⟨b, o + j, none⟩ (.int .u8 (IntKind.u8.wrap (k0 + (j : Int)))))) := HR.out.trans (Mk.set d0 _)
      clear HR d0
      go_wp2
      go_roundw
      case rel => exact ⟨j + 1, by omega, by go_num, by go_num, M1.out⟩
      case measure => simp [intOf]; omega
    · obtain rfl : j = l := by omega
      go_wp2
      go_ret
      exact ⟨_, rfl, by omega, by omega, HR.out⟩


end Go.Proofs.YtpmndefmibnaeaaDoor.By
