/-
  bytes.makeASCIISet and what it holds. No statement is proved here.
-/
import Derived.Test.YtaecnhmegdeicaaDoorXU
import Derived.Lib.AsciiSet
import Derived.Laws.Rows
import Derived.Laws.Tables
import Derived.Laws.CopyRow
namespace Go.Proofs.YtaecnhmegdeicaaDoor.By
open Go.RowKit
set_option linter.unusedVariables false
set_option linter.unusedSimpArgs false

set_option maxHeartbeats 2000000 in
theorem setHasT (b : Nat) (x : Int) (v : Bool) (w : World) (h0 : 0 ≤ x) (h1 : x ≤ 255) (hc : w.cell? ⟨b, x.toNat, none⟩ = some (.bool v)) :
    Calls Tryd.prog 34 #[.pointer (some ⟨b, 0, none⟩), .int .u8 x] w fun e u => e = .returned (.bool v) ∧ u = w := by
  obtain ⟨n, rfl⟩ : ∃ n : Nat, x = n := ⟨x.toNat, by omega⟩
  rw [Int.toNat_natCast] at hc
  go_enter Tryd.func34, Tryd.ntmps34
  go_wp2
  go_ret
  exact ⟨rfl, rfl⟩

theorem zeroSet (w : World) : (zeroValue 50).run Tryd.prog w = .ok (.agg (Array.replicate 256 (.bool false))) w := by kernel_rfl
theorem sizeSet : (Tryd.prog.info? 50).map (·.size) = some 256 := by kernel_rfl

theorem results_cellU {P : Program} {fn : Func} {p u : Tmp} {ty : TypeId} (h : fn.results = #[.cell p ty, .tmp u]) (tmps : Array Value) (w : World) (g : Nat) (t : TypeId) (cs : Array Value) (fr : Nat × Nat) (d : TypeDesc)
    (hp : tmps.getD p undef = .pointer (some ⟨g, 0, none⟩)) (hg : w.heap[g]? = some (.cells cs t fr))
    (hu : P.underlying ty = some d) (hd : (match d with | .struct _ | .array _ _ => true | _ => false) = true) (hi : (P.info? ty).map (·.size) = some cs.size) :
    (results fn tmps).run P w = .ok (.tuple #[.agg cs, tmps.getD u undef]) w := by
  have hp' : tmps[p]?.getD undef = .pointer (some ⟨g, 0, none⟩) := by simpa using hp
  simp [results, h, hp', asAddr, run_loadVar_row w g t ty cs fr d hg hu hd hi]

set_option maxRecDepth 100000 in
set_option maxHeartbeats 4000000 in
theorem mksetT (s : ByteArray) (w : World) (hs : s.size ≤ 1000) (ha : ∀ (j : Nat) b, s.data.toList[j]? = some b → b.toNat < 128) :
    Calls Tryd.prog 33 #[.string s] w fun e u => e = .returned (.tuple #[.agg (Lib.setCells s.data.toList), .bool true]) ∧ w.grownBy u none := by
  have HA : Hid (∀ (j : Nat) b, s.data.toList[j]? = some b → b.toNat < 128) := ha
  have hv := zeroSet
  clear ha
  go_enter Tryd.func33, Tryd.ntmps33
  go_wp2
  have ga := World.grownBy_alloc w (.cells (Array.replicate 256 (.bool false)) 50) none
  have ba := heap_alloc_new w (.cells (Array.replicate 256 (.bool false)) 50)
  have L0 : Hid (w.grownBy (w.alloc (.cells (Array.replicate 256 (.bool false)) 50)) none ∧ (w.alloc (.cells (Array.replicate 256 (.bool false)) 50)).heap[w.heap.size]? = some (Obj.cells (Lib.setCells (s.data.toList.take 0)) 50 (0, 0))) := ⟨ga, ba⟩
  have HG : Hid (w.heap.size ≤ w.heap.size) := Nat.le_refl _
  clear ga ba hv
  generalize (w.alloc (.cells (Array.replicate 256 (.bool false)) 50)) = w1 at *
  obtain ⟨g, hg⟩ : ∃ g, w.heap.size = g := ⟨_, rfl⟩
  rw [hg] at L0 ⊢
  have HGG : Hid (w.heap.size ≤ g) := Nat.le_of_eq hg
  clear hg HG
  go_loopw [4] (fun i wr => ∃ k : Nat, k ≤ s.size ∧ i = .int .i64 k ∧ Hid (w.grownBy wr none ∧ wr.heap[g]? = some (Obj.cells (Lib.setCells (s.data.toList.take k)) 50 (0, 0)))) (fun i _ => s.size - (intOf i).toNat)
  case atStart => exact ⟨0, Nat.zero_le _, rfl, L0.out⟩
  case round =>
    clear L0
    obtain ⟨k, hk, rfl, HL⟩ := hrel
    by_cases hlt : k < s.size
    · obtain ⟨x, hx⟩ : ∃ x : UInt8, s[k]'hlt = x := ⟨_, rfl⟩
      have hxl : s.data.toList[k]? = some x := by rw [← hx]; exact Lib.data_getElem? s k hlt
      have hx128 : ¬ ((128 : Int) ≤ (x.toNat : Int)) := by have := HA.out k x hxl; omega
      have hx256 : (x.toNat : Int) < 256 := by have := HA.out k x hxl; omega
      obtain ⟨gw, hb⟩ := HL.out
      have c0 : wr.cell? ⟨g, x.toNat, none⟩ = some (.bool ((s.data.toList.take k).contains x)) := by rw [cell_of_row wr g _ _ _ (0, 0) hb, Lib.setCells_at]
      have f0 := frozen_of_row wr g x.toNat _ _ hb
      have kk := grown_setCell wr g x.toNat (.bool true)
      have hb2 : (wr.setCell ⟨g, x.toNat, none⟩ (.bool true)).heap[g]? = some (Obj.cells (Lib.setCells (s.data.toList.take (k + 1))) 50 (0, 0)) := by
        rw [List.take_add_one, hxl]
        simp only [Option.toList]
        rw [Lib.setCells_snoc]
        exact heap_setCell_same wr g x.toNat _ _ (.bool true) hb
      have FQ : Hid (w.grownBy (wr.setCell ⟨g, x.toNat, none⟩ (.bool true)) none ∧ (wr.setCell ⟨g, x.toNat, none⟩ (.bool true)).heap[g]? = some (Obj.cells (Lib.setCells (s.data.toList.take (k + 1))) 50 (0, 0))) := ⟨grown_into gw kk HGG.out, hb2⟩
      clear gw hb kk hb2 HL hxl
      go_wp2
      go_roundw
      case rel => exact ⟨k + 1, by omega, by go_num, FQ⟩
      case measure => simp [intOf]; omega
    · obtain rfl : k = s.size := by omega
      have hall : s.data.toList.take s.size = s.data.toList := List.take_of_length_le (by rw [← Lib.size_eq]; exact Nat.le_refl _)
      have hb := HL.out.2
      rw [hall] at hb
      have HB : Hid (w.grownBy wr none ∧ wr.heap[g]? = some (Obj.cells (Lib.setCells s.data.toList) 50 (0, 0))) := ⟨HL.out.1, hb⟩
      have hsz : (Tryd.prog.info? 50).map (·.size) = some (Lib.setCells s.data.toList).size := by rw [Lib.setCells_size]; exact sizeSet
      have hone := Lib.setCells_one s.data.toList
      clear HL hall hb
      obtain ⟨cs, hcs⟩ : ∃ cs, Lib.setCells s.data.toList = cs := ⟨_, rfl⟩
      rw [hcs] at HB hsz hone
      have HCS : Hid (Lib.setCells s.data.toList = cs) := hcs
      clear hcs
      go_wp2_with (first | refine wpList_load_row rfl 50 _ rfl g rfl 50 cs (0, 0) _ HB.out.2 Tryd.underlying50 rfl hsz ?_ | (refine wpList_store_row rfl 50 _ _ rfl g cs rfl rfl 50 cs HB.out.2 hsz rfl hone ?_; rw [setRow_self wr g cs 50 (0, 0) HB.out.2]))
      (try simp only [Exit.inBlock, Exit.then])
      refine bodyPost_ret (results_cellU (P := Tryd.prog) Tryd.results33 _ _ g _ _ _ _ rfl HB.out.2 Tryd.underlying50 rfl hsz) rfl ?_
      exact ⟨by rw [HCS.out]; rfl, HB.out.1⟩
end Go.Proofs.YtaecnhmegdeicaaDoor.By
