/-
  'append(s, make([]byte, k)...)' at a row of our own, for this seat's proofs. No statement is proved here.
-/
import Derived.Test.YtonmcndedbmbfaaPutTM
namespace Go.Proofs.Ytonmcndedbmbfaa.By
open Go.RowKit
set_option linter.unusedVariables false
set_option linter.unusedSimpArgs false

theorem zero_cells (k : Nat) : Builtin.zeroCells (Value.int .u8 0).cells k = (vals (List.replicate k 0)).toArray := by
  apply Array.ext'
  simp [Builtin.zeroCells, Value.cells, vals, Nat.mod_one, List.map_const']
theorem run_zeros {w : World} {B g n cp : Nat} {zs : List Int} (ty : TypeId) (h : Row w g cp zs) (hl : zs.length = n) (hB : B ≤ g) (hBw : B ≤ w.heap.size) (hm : cp ≤ maxLen) (k : Nat) (hk : 0 < k) (hn : n + k ≤ 1000) :
    ∃ v' w', (Builtin.append_ #[22, 3] ty #[.slice (some ⟨g, 0, none⟩) n cp, .int .i64 (k : Int)]).run Try.prog w = .ok v' w' ∧ w'.ownsRow B 5 1 v' (n + k) (vals (zs ++ List.replicate k 0)) ∧ w.grownBy w' (some g) ∧ v' ≠ .slice none 0 0 := by
  obtain ⟨i0, hi, hz0, hz1, hz2⟩ := info_parts info5
  obtain ⟨cur, hc, hsz, ht, hle⟩ := h
  have hlen : (vals (zs ++ List.replicate k 0)).length = (n + k) * 1 := by simp [vals, hl]
  by_cases hroom : n + k ≤ cp
  · have hst := run_storeCells_at (P := Try.prog) g n 5 (vals (List.replicate k 0)) 0 cur w hc (by simp [vals]; omega) (vals_one _)
    have hk0 : k ≠ 0 := by omega
    have hw : IntKind.i64.wrap (k : Int) = k := IntWalk.i64_in _ (by omega)
    have hneg : ¬ ((k : Int) < 0) := by omega
    have h48i : ¬ (281474976710656 < (k : Int) * (1 : Int)) := by omega
    have h48j : ¬ (281474976710656 < (k : Int)) := by omega
    have h48k : ¬ (281474976710656 < k) := by omega
    simp only [Nat.add_zero] at hst
    have r : (Builtin.append_ #[22, 3] ty #[.slice (some ⟨g, 0, none⟩) n cp, .int .i64 (k : Int)]).run Try.prog w = .ok (.slice (some ⟨g, 0, none⟩) (n + k) cp) (w.setRow g (cur.toList.take n ++ vals (List.replicate k 0) ++ cur.toList.drop (n + (vals (List.replicate k 0)).length)).toArray) := by
      simp [Builtin.append_, run_underlying Try.underlying22, run_underlying Try.underlying3, sizeOf, typeInfo, zeroValue, hi, hz0, hz1, hz2, asInt, asIntOf, hw, hneg, h48i, h48j, h48k, hk0, hroom, zero_cells, Addr.add_lit, hst]
    refine ⟨_, _, r, ⟨hlen, .inr ⟨g, cp, _, rfl, hB, setRow_heap w g cur _ 5 _ hc, hroom, hm, ?_, ?_⟩⟩, ⟨rfl, rfl, rfl, by simp, fun j _ hj => setRow_other w g j _ (fun e => hj (by rw [e]))⟩, by simp⟩
    · simp [vals]; omega
    · have ht' : cur.toList.take n = vals zs := by rw [← hl]; exact ht
      rw [List.toList_toArray, ht', vals_app, ← hlen]
      exact List.take_left
  · have hold : (Builtin.firstCells i0.size n (.slice (some ⟨g, 0, none⟩) n cp)).run Try.prog w.drew = .ok (vals zs).toArray w.drew := by
      refine run_firstCells_some w.drew i0.size n ⟨g, 0, none⟩ n cp (vals zs) (by simp [vals, hl, hz1]) ?_
      have hrow : Row w g cp zs := ⟨cur, hc, hsz, ht, hle⟩
      exact vals_get (n := n) hl (fun i hi => by have := hrow.cell i (by omega); simpa using this)
    have r := Lib.run_append_grow_zeros (P := Try.prog) w 22 3 ty 5 i0 (.int .u8 0) .i64 .i64 Try.underlying22 Try.underlying3 hi hz0 (some ⟨g, 0, none⟩) n cp (vals zs) hold k hk (by omega) (by omega) (by omega) (by rw [hz2]; omega) (growslice_fits (by omega) (by rw [hz2]; omega))
    have hge := grownCap_ge w (n + k) cp 5
    refine ⟨_, _, r, ⟨hlen, .inr ⟨w.heap.size, _, _, rfl, hBw, heap_alloc_new w.drew _, hge, grownCap_le_maxLen w (n + k) cp 5 (by simp [maxLen]; omega), ?_, ?_⟩⟩, ⟨rfl, rfl, rfl, by simp, fun j hj _ => heap_alloc_old w.drew _ hj⟩, by simp⟩
    · simp only [zero_cells, Array.size_append, List.size_toArray, vals, List.length_map, List.length_replicate, hl]
      omega
    · simp only [zero_cells, Array.toList_append, List.append_assoc]
      rw [← List.append_assoc, vals_app, ← hlen]
      exact List.take_left
end Go.Proofs.Ytonmcndedbmbfaa.By
