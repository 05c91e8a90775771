/-
  The store's entries, gone through by a method value that is ranged over. No statement is proved here.
-/
import Derived.Test.YtccnninmkfhejaaWR
import Derived.Test.YtccnninmkfhejaaSEntrys
import Derived.Shelf.Abstract
import Derived.Shelf.RegionOpen
import Derived.WalkKit
import Derived.OwnWalkIn
import Derived.TacticsInMore
import Derived.LoopNIn
import Derived.LoopIn
namespace Go.Proofs.Ytccnninmkfhejaa.By
open Go.RowKit
set_option linter.unusedVariables false
set_option linter.unusedSimpArgs false
attribute [local go_sem] Oper.semAt_some

def keyAt (xs : List REntry) (k : Nat) : Int := (xs.getD k ⟨0, 0⟩).key
def valAt (xs : List REntry) (k : Nat) : Int := (xs.getD k ⟨0, 0⟩).val
theorem InEntry.at {w wp : World} {xs : List REntry} {b off : Nat} (h : InEntry w wp xs b off) {k : Nat} (hk : k < xs.length) : w.cell? ⟨b, off + k * 2, none⟩ = some (.int .i64 (keyAt xs k)) ∧ w.cell? ⟨b, off + k * 2 + 1, none⟩ = some (.int .i64 (valAt xs k)) := by
  induction xs generalizing off k with
  | nil => simp at hk
  | cons x r ih =>
    obtain ⟨⟨a1, l1, c1, ⟨h0, h1⟩, -⟩, hr⟩ := h
    cases k with
    | zero => simpa [keyAt, valAt] using ⟨h0, h1⟩
    | succ k =>
      have := ih hr (k := k) (by simpa using hk)
      rw [show off + (k + 1) * 2 = off + 2 + k * 2 by omega]
      simpa [keyAt, valAt] using this

def encE (xs : List REntry) (k : Nat) : Array Value := #[.int .i64 (k : Int), .agg #[.int .i64 (keyAt xs k), .int .i64 (valAt xs k)]]
def objE (xs : List REntry) (k : Nat) : Obj := .cells #[.int .i64 (keyAt xs k), .int .i64 (valAt xs k)] 66

set_option maxRecDepth 100000 in
set_option maxHeartbeats 2000000 in
theorem entries_stops (xs : List REntry) (a : Option Addr) (l c p B : Nat) (w : World) (hBw : B ≤ w.heap.size) (hpB : p < B) (hp : w.cell? ⟨p, 2, none⟩ = some (.slice a l c)) (h : SlEntry w a l xs) (hbB : ∀ b o, a = some ⟨b, o, none⟩ → 0 < l → b < B) :
    Stops Try.prog 77 (.pointer (some ⟨p, 0, none⟩)) (encE xs) xs.length B w := by
  intro L J Jx W hW hJa hY h0
  have hl := h.2.1
  have hfl := h.1
  have hp := (hW.cell (p := ⟨p, 2, none⟩) hpB).trans hp
  rcases h.cases with ⟨rfl, rfl⟩ | ⟨b, o, rfl, hin, hpos⟩
  · refine callsIn_wide (n := 1) |>.1 (callsIn_of_wp Try.func77 rfl trivial ?_ rfl)
    clear hY hJa h hfl hbB
    simp only [Try.ntmps77, List.size_toArray, List.length_cons, List.length_nil, Nat.reduceAdd, Nat.reduceSub, Array.replicate_succ, Array.replicate_zero, List.push_toArray, List.append_toArray, List.nil_append, List.cons_append]
    gi_wp2
    gi_loopw [11] (fun i wr => i = .int .i64 0 ∧ J 0 wr) (fun _ _ => 0)
    case atStart => exact ⟨rfl, h0⟩
    case round =>
      obtain ⟨rfl, hJs⟩ := hrel
      gi_wp2
      go_end0
      exact ⟨⟨_, rfl⟩, .inl hJs⟩
  have hbB := hbB b o rfl hpos
  have HC : Hid (∀ u k, Below B W u → k < l → u.cell? ⟨b, o + k * 2, none⟩ = some (.int .i64 (keyAt xs k)) ∧ u.cell? ⟨b, o + k * 2 + 1, none⟩ = some (.int .i64 (valAt xs k))) := fun u k hu hk => by
    obtain ⟨c0, c1⟩ := hin.at (k := k) (by omega)
    exact ⟨((hu.cell (p := ⟨b, _, none⟩) hbB).trans (hW.cell (p := ⟨b, _, none⟩) hbB)).trans c0, ((hu.cell (p := ⟨b, _, none⟩) hbB).trans (hW.cell (p := ⟨b, _, none⟩) hbB)).trans c1⟩
  have HY : Hid _ := hY
  have HJ : Hid _ := hJa
  have HF : Hid (xs.length = l) := hfl
  have hBW : Hid (B ≤ W.heap.size) := Nat.le_trans hBw hW.size
  clear hY hJa h hfl hin hW hBw
  refine callsIn_wide (n := 1) |>.1 (callsIn_of_wp Try.func77 rfl trivial ?_ rfl)
  simp only [Try.ntmps77, List.size_toArray, List.length_cons, List.length_nil, Nat.reduceAdd, Nat.reduceSub, Array.replicate_succ, Array.replicate_zero, List.push_toArray, List.append_toArray, List.nil_append, List.cons_append]
  gi_wp2
  gi_loopw [11] (fun i wr => ∃ k : Nat, k ≤ l ∧ i = .int .i64 k ∧ J k wr ∧ Hid (Below B W wr ∧ B ≤ W.heap.size)) (fun i _ => l - (intOf i).toNat)
  case atStart => exact ⟨0, Nat.zero_le _, rfl, h0, Below.refl _ _, hBW.out⟩
  case round =>
    obtain ⟨k, hk, rfl, hJs, hnx⟩ := hrel
    by_cases hlt : k < l
    · obtain ⟨c0, c1⟩ := HC.out wr k hnx.out.1 hlt
      obtain ⟨fn, tmps, assign, body, hy, hR⟩ := HY.out k _ (HJ.out _ _ (objE xs k) hJs) (by rw [HF.out]; exact hlt) 0
      dsimp only [encE, objE] at hy hR
      clear HY HJ
      gi_wp2
      refine hR.mono ?_
      rintro e W3 (⟨rfl, hJ3, hk3⟩ | ⟨rfl, hJx3⟩)
      · gi_wp2
        go_roundw
        case rel => exact ⟨k + 1, by omega, by go_num, hJ3, (hnx.out.1.alloc (Nat.le_trans hnx.out.2 hnx.out.1.size) _).trans hk3, hnx.out.2⟩
        case measure => simp [intOf]; omega
      · gi_wp2
        refine bodyPost_ret (results_none rfl _ _ _) rfl ?_
        exact ⟨⟨_, rfl⟩, .inr ⟨k, by rw [HF.out]; exact hlt, hJx3⟩⟩
    · obtain rfl : k = l := by omega
      clear HY HJ
      gi_wp2
      go_end0
      exact ⟨⟨_, rfl⟩, .inl (by rw [HF.out]; exact hJs)⟩
end Go.Proofs.Ytccnninmkfhejaa.By
