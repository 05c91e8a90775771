/-
  Several texts in one (EB, GI, THelp, TCopy, TEq, TLaw, GS, HMk). No statement is proved here.
-/
import Derived.Test.YtccnninmkfhejaaTOwn
import Derived.Test.YtccnninmkfhejaaBase
import Derived.Test.YtccnninmkfhejaaHBase
import Derived.Test.YtccnninmkfhejaaRows
import Derived.Test.YtccnninmkfhejaaTOpenAlso
import Derived.WalkKit
import Derived.ProofKit
import Derived.WalkSpells
import Derived.RegionTactic
import Derived.Deep.QuietTactic
import Derived.BigQuiet
import Derived.Deep.RegionWith
import Derived.Handy
import Derived.Deep.RegionHeld
namespace Go.Proofs.Ytccnninmkfhejaa.By
open Go.RowKit
set_option linter.unusedVariables false

/-- A constructor: its name and its fields. -/
structure Co where
  name : List Int
  flds : F
/-- A data: its name, how many variables, its constructors. -/
structure Da where
  name : List Int
  vars : Int
  cons : List Co
/-- All that the one world's cells hold the other's hold. -/
def CLe (w u : World) : Prop := ∀ p v, w.cell? p = some v → u.cell? p = some v
theorem CLe.grown {w u : World} (h : w.grownBy u none) : CLe w u := fun _ _ hv => h.cell hv (by simp)
theorem CLe.trans {w u v : World} (h : CLe w u) (k : CLe u v) : CLe w v := fun p x hx => k p x (h p x hx)
/-- A row of bytes that is read. -/
def RdB (w : World) (a : Option Addr) (n : Nat) (zs : List Int) : Prop := Reads w a n zs ∧ Byt zs ∧ n ≤ 9223372036854775807
theorem RdB.le {w u : World} {a : Option Addr} {n : Nat} {zs : List Int} (h : RdB w a n zs) (k : CLe w u) : RdB u a n zs := by
  obtain ⟨⟨h1, h2⟩, h3⟩ := h
  refine ⟨⟨h1, ?_⟩, h3⟩
  rcases h2 with h2 | ⟨b, o, e, h2⟩
  · exact .inl h2
  · exact .inr ⟨b, o, e, fun i hi => k _ _ (h2 i hi)⟩
theorem RdB.none {w u : World} {a : Option Addr} {n : Nat} {zs : List Int} (h : RdB w a n zs) (k : w.grownBy u Option.none) : RdB u a n zs := h.le (CLe.grown k)
theorem SlF.le {w u : World} {a : Option Addr} {l : Nat} {f : F} (h : SlF w a l f) (k : CLe w u) : SlF u a l f := by
  obtain ⟨h1, h2, h3⟩ := h
  refine ⟨h1, h2, ?_⟩
  rcases h3 with h3 | ⟨b, o, e, h3⟩
  · exact .inl h3
  · exact .inr ⟨b, o, e, h3.cells k⟩
/-- Constructors from a cell on, two cells each; their parts are read in wp. -/
def InCo (w wp : World) : List Co → Nat → Nat → Prop
  | [], _, _ => True
  | x :: r, b, off => (∃ a n c a' l' c', w.cell? ⟨b, off, none⟩ = some (.slice a n c) ∧ w.cell? ⟨b, off + 1, none⟩ = some (.slice a' l' c') ∧ RdB wp a n x.name ∧ SlF wp a' l' x.flds) ∧ InCo w wp r b (off + 2)
def SlCo (w : World) (a : Option Addr) (l : Nat) (cs : List Co) : Prop :=
  cs.length = l ∧ l ≤ 9223372036854775807 ∧ (l = 0 ∨ ∃ b o, a = some ⟨b, o, none⟩ ∧ InCo w w cs b o)
theorem InCo.move {w wp u up : World} {cs : List Co} {b off b' off' : Nat} (h : InCo w wp cs b off) (hc : ∀ i v, i < cs.length * 2 → w.cell? ⟨b, off + i, none⟩ = some v → u.cell? ⟨b', off' + i, none⟩ = some v) (k : CLe wp up) : InCo u up cs b' off' := by
  induction cs generalizing off off' with
  | nil => trivial
  | cons x r ih =>
    obtain ⟨⟨a, n, c, a', l', c', h0, h1, h2, h3⟩, hr⟩ := h
    refine ⟨⟨a, n, c, a', l', c', by simpa using hc 0 _ (by simp) h0, hc 1 _ (by simp; omega) h1, h2.le k, h3.le k⟩, ih hr (fun i v hi hv => ?_)⟩
    have := hc (i + 2) v (by simp; omega) (by rw [show off + (i + 2) = off + 2 + i by omega]; exact hv)
    rw [show off' + 2 + i = off' + (i + 2) by omega]; exact this
theorem InCo.le {w wp u up : World} {cs : List Co} {b off : Nat} (h : InCo w wp cs b off) (k : CLe w u) (k2 : CLe wp up) : InCo u up cs b off := h.move (fun i v _ hv => k _ _ hv) k2
theorem InCo.app {w wp : World} {P Q : List Co} {b off : Nat} (h : InCo w wp P b off) (k : InCo w wp Q b (off + P.length * 2)) : InCo w wp (P ++ Q) b off := by
  induction P generalizing off with
  | nil => simpa using k
  | cons x r ih =>
    refine ⟨h.1, ih h.2 ?_⟩
    rw [show off + 2 + r.length * 2 = off + (x :: r).length * 2 by simp; omega]; exact k
theorem SlCo.le {w u : World} {a : Option Addr} {l : Nat} {cs : List Co} (h : SlCo w a l cs) (k : CLe w u) : SlCo u a l cs := by
  obtain ⟨h1, h2, h3⟩ := h
  refine ⟨h1, h2, ?_⟩
  rcases h3 with h3 | ⟨b, o, e, h3⟩
  · exact .inl h3
  · exact .inr ⟨b, o, e, h3.le k k⟩
theorem SlCo.none {w u : World} {a : Option Addr} {l : Nat} {cs : List Co} (h : SlCo w a l cs) (k : w.grownBy u Option.none) : SlCo u a l cs := h.le (CLe.grown k)
theorem SlCo.cases {w : World} {a : Option Addr} {l : Nat} {cs : List Co} (h : SlCo w a l cs) : (l = 0 ∧ cs = []) ∨ ∃ b o, a = some ⟨b, o, Option.none⟩ ∧ InCo w w cs b o ∧ 0 < l := by
  obtain ⟨h1, h2, h3⟩ := h
  by_cases h0 : l = 0
  · exact .inl ⟨h0, List.eq_nil_of_length_eq_zero (by omega)⟩
  · rcases h3 with h3 | ⟨b, o, e, h3⟩
    · exact absurd h3 h0
    · exact .inr ⟨b, o, e, h3, by omega⟩
/-- Data from a cell on, three cells each. -/
def InDa (w wp : World) : List Da → Nat → Nat → Prop
  | [], _, _ => True
  | x :: r, b, off => (∃ a n c a' l' c', w.cell? ⟨b, off, none⟩ = some (.slice a n c) ∧ w.cell? ⟨b, off + 1, none⟩ = some (.int .i64 x.vars) ∧ w.cell? ⟨b, off + 2, none⟩ = some (.slice a' l' c') ∧ RdB wp a n x.name ∧ SlCo wp a' l' x.cons) ∧ InDa w wp r b (off + 3)
def SlDa (w : World) (a : Option Addr) (l : Nat) (ds : List Da) : Prop :=
  ds.length = l ∧ l ≤ 9223372036854775807 ∧ (l = 0 ∨ ∃ b o, a = some ⟨b, o, none⟩ ∧ InDa w w ds b o)
theorem InDa.move {w wp u up : World} {ds : List Da} {b off b' off' : Nat} (h : InDa w wp ds b off) (hc : ∀ i v, i < ds.length * 3 → w.cell? ⟨b, off + i, none⟩ = some v → u.cell? ⟨b', off' + i, none⟩ = some v) (k : CLe wp up) : InDa u up ds b' off' := by
  induction ds generalizing off off' with
  | nil => trivial
  | cons x r ih =>
    obtain ⟨⟨a, n, c, a', l', c', h0, h1, h2, h3, h4⟩, hr⟩ := h
    refine ⟨⟨a, n, c, a', l', c', by simpa using hc 0 _ (by simp) h0, hc 1 _ (by simp; omega) h1, hc 2 _ (by simp; omega) h2, h3.le k, h4.le k⟩, ih hr (fun i v hi hv => ?_)⟩
    have := hc (i + 3) v (by simp; omega) (by rw [show off + (i + 3) = off + 3 + i by omega]; exact hv)
    rw [show off' + 3 + i = off' + (i + 3) by omega]; exact this
theorem InDa.le {w wp u up : World} {ds : List Da} {b off : Nat} (h : InDa w wp ds b off) (k : CLe w u) (k2 : CLe wp up) : InDa u up ds b off := h.move (fun i v _ hv => k _ _ hv) k2
theorem InDa.app {w wp : World} {P Q : List Da} {b off : Nat} (h : InDa w wp P b off) (k : InDa w wp Q b (off + P.length * 3)) : InDa w wp (P ++ Q) b off := by
  induction P generalizing off with
  | nil => simpa using k
  | cons x r ih =>
    refine ⟨h.1, ih h.2 ?_⟩
    rw [show off + 3 + r.length * 3 = off + (x :: r).length * 3 by simp; omega]; exact k
theorem SlDa.le {w u : World} {a : Option Addr} {l : Nat} {ds : List Da} (h : SlDa w a l ds) (k : CLe w u) : SlDa u a l ds := by
  obtain ⟨h1, h2, h3⟩ := h
  refine ⟨h1, h2, ?_⟩
  rcases h3 with h3 | ⟨b, o, e, h3⟩
  · exact .inl h3
  · exact .inr ⟨b, o, e, h3.le k k⟩
theorem SlDa.none {w u : World} {a : Option Addr} {l : Nat} {ds : List Da} (h : SlDa w a l ds) (k : w.grownBy u Option.none) : SlDa u a l ds := h.le (CLe.grown k)
theorem SlDa.cases {w : World} {a : Option Addr} {l : Nat} {ds : List Da} (h : SlDa w a l ds) : (l = 0 ∧ ds = []) ∨ ∃ b o, a = some ⟨b, o, Option.none⟩ ∧ InDa w w ds b o ∧ 0 < l := by
  obtain ⟨h1, h2, h3⟩ := h
  by_cases h0 : l = 0
  · exact .inl ⟨h0, List.eq_nil_of_length_eq_zero (by omega)⟩
  · rcases h3 with h3 | ⟨b, o, e, h3⟩
    · exact absurd h3 h0
    · exact .inr ⟨b, o, e, h3, by omega⟩
/-- A world without its blocks below lo. -/
def hideW (w : World) (lo : Nat) : World := { w with heap := w.heap.mapIdx fun i o => if i < lo then .map #[] 0 else o }
theorem hideW_heap {w : World} {lo i : Nat} (h : lo ≤ i) : (hideW w lo).heap[i]? = w.heap[i]? := by
  unfold hideW
  rw [Array.getElem?_mapIdx]
  simp only [if_neg (show ¬ i < lo by omega)]
  cases w.heap[i]? <;> rfl
theorem hideW_no {w : World} {lo i j : Nat} (h : i < lo) : (hideW w lo).cell? ⟨i, j, none⟩ = none := by
  have e : (hideW w lo).heap[i]? = none ∨ (hideW w lo).heap[i]? = some (.map #[] 0) := by
    unfold hideW
    rw [Array.getElem?_mapIdx]
    simp only [if_pos h]
    cases w.heap[i]? with
    | none => exact .inl rfl
    | some o => exact .inr rfl
  rcases e with e | e <;> simp [World.cell?, e]
theorem hideW_cell {w : World} {lo i j : Nat} (h : lo ≤ i) : (hideW w lo).cell? ⟨i, j, none⟩ = w.cell? ⟨i, j, none⟩ := cell_of_heap (hideW_heap h)
end Go.Proofs.Ytccnninmkfhejaa.By

namespace Go.Proofs.Ytccnninmkfhejaa.By
open Go.RowKit
set_option linter.unusedVariables false

/-- A row of whole numbers that is read. -/
def RdI (w : World) (a : Option Addr) (n : Nat) (zs : List Int) : Prop := ReadsI w a n zs ∧ n ≤ 9223372036854775807
theorem RdI.le {w u : World} {a : Option Addr} {n : Nat} {zs : List Int} (h : RdI w a n zs) (k : CLe w u) : RdI u a n zs := by
  obtain ⟨⟨h1, h2⟩, h3⟩ := h
  refine ⟨⟨h1, ?_⟩, h3⟩
  rcases h2 with h2 | ⟨b, o, e, h2⟩
  · exact .inl h2
  · exact .inr ⟨b, o, e, fun i hi => k _ _ (h2 i hi)⟩
theorem RdI.none {w u : World} {a : Option Addr} {n : Nat} {zs : List Int} (h : RdI w a n zs) (k : w.grownBy u Option.none) : RdI u a n zs := h.le (CLe.grown k)
end Go.Proofs.Ytccnninmkfhejaa.By

namespace Go.Proofs.Ytccnninmkfhejaa.By
open Go.RowKit
set_option linter.unusedVariables false

/-- What is left of L behind all of f. -/
def szV (f : F) (L : Int) : Int := if (f.size : Int) ≤ L then L - f.size else -1

/-- The same, where the trees of R themselves are counted already. -/
def szR (R : F) (L : Int) : Int := if (R.size : Int) - R.len ≤ L then L - (R.size - R.len) else -1
theorem szR_nil {L : Int} (h : 0 ≤ L) : szR .nil L = L := by
  have : szR .nil L = if (0 : Int) ≤ L then L - 0 else -1 := rfl
  rw [this, if_pos h, Int.sub_zero]
theorem szR_all {f : F} {L : Int} {l : Nat} (h : f.len = l) : szV f L = szR f (L - l) := by
  unfold szV szR
  by_cases hs : (f.size : Int) ≤ L
  · rw [if_pos hs, if_pos (by omega)]; omega
  · rw [if_neg hs, if_neg (by omega)]
theorem szR_cons {k n : Int} {d r : F} {L : Int} (h : (d.size : Int) ≤ L) : szR (.cons k n d r) L = szR r (L - d.size) := by
  unfold szR
  have e1 : ((F.cons k n d r).size : Int) = 1 + d.size + r.size := by simp [F.size]
  have e2 : ((F.cons k n d r).len : Int) = r.len + 1 := by simp [F.len]
  rw [e1, e2]
  by_cases hq : (r.size : Int) - r.len ≤ L - d.size
  · rw [if_pos (by omega), if_pos hq]; omega
  · rw [if_neg (by omega), if_neg hq]
theorem szR_less {k n : Int} {d r : F} {L : Int} (h : ¬ (d.size : Int) ≤ L) : szR (.cons k n d r) L = -1 := by
  have := r.len_le
  unfold szR
  have e1 : ((F.cons k n d r).size : Int) = 1 + d.size + r.size := by simp [F.size]
  have e2 : ((F.cons k n d r).len : Int) = r.len + 1 := by simp [F.len]
  rw [e1, e2, if_neg (by omega)]

end Go.Proofs.Ytccnninmkfhejaa.By

namespace Go.Proofs.Ytccnninmkfhejaa.By
open Go.RowKit
set_option linter.unusedVariables false

end Go.Proofs.Ytccnninmkfhejaa.By

namespace Go.Proofs.Ytccnninmkfhejaa.By
open Go.RowKit
set_option linter.unusedVariables false
set_option linter.unusedSimpArgs false

/-- Three cells from off on. -/
def Tri (b off : Nat) (v0 v1 v2 : Value) (w : World) : Prop := w.cell? ⟨b, off, none⟩ = some v0 ∧ w.cell? ⟨b, off + 1, none⟩ = some v1 ∧ w.cell? ⟨b, off + 2, none⟩ = some v2
theorem Tri.none {b off : Nat} {v0 v1 v2 : Value} {w w' : World} (h : Tri b off v0 v1 v2 w) (hg : w.grownBy w' Option.none) : Tri b off v0 v1 v2 w' :=
  ⟨hg.cell h.1 (by simp), hg.cell h.2.1 (by simp), hg.cell h.2.2 (by simp)⟩

end Go.Proofs.Ytccnninmkfhejaa.By

namespace Go.Proofs.Ytccnninmkfhejaa.By
open Go.RowKit
set_option linter.unusedVariables false

end Go.Proofs.Ytccnninmkfhejaa.By

namespace Go.Proofs.Ytccnninmkfhejaa.By
open Go.RowKit
set_option linter.unusedVariables false
set_option linter.unusedSimpArgs false

def SzW (L : Int) (t : Nat) (e : Ending) : Prop := ∃ r, e = .returned (.int .i64 r) ∧ (r = -1 ∨ (0 ≤ r ∧ r + t ≤ L))

set_option maxHeartbeats 400000 in
theorem szByW (a : Option Addr) (n c : Nat) (zs : List Int) (L : Int) (w : World) (h : RdB w a n zs) (h0 : 0 ≤ L) (h1 : L ≤ 1048576) :
    Calls Try.prog 78 #[.slice a n c, .int .i64 L] w fun e u => SzW L zs.length e ∧ w.grownBy u none := by
  have hn := h.2.2
  have hl := h.1.1
  clear h
  by_cases hneg : L - (n : Int) < 0
  · go_enter Try.func78, Try.ntmps78
    go_wp2
    go_ret
    exact ⟨⟨-1, rfl, .inl rfl⟩, World.grownBy.refl _ _⟩
  · go_enter Try.func78, Try.ntmps78
    go_wp2
    go_ret
    exact ⟨⟨_, rfl, .inr ⟨by omega, by omega⟩⟩, World.grownBy.refl _ _⟩

set_option maxHeartbeats 400000 in
theorem szInW (a : Option Addr) (n c : Nat) (zs : List Int) (L : Int) (w : World) (h : RdI w a n zs) (h0 : 0 ≤ L) (h1 : L ≤ 1048576) :
    Calls Try.prog 34 #[.slice a n c, .int .i64 L] w fun e u => SzW L zs.length e ∧ w.grownBy u none := by
  have hn := h.2
  have hl := h.1.1
  clear h
  by_cases hneg : L - (n : Int) < 0
  · go_enter Try.func34, Try.ntmps34
    go_wp2
    go_ret
    exact ⟨⟨-1, rfl, .inl rfl⟩, World.grownBy.refl _ _⟩
  · go_enter Try.func34, Try.ntmps34
    go_wp2
    go_ret
    exact ⟨⟨_, rfl, .inr ⟨by omega, by omega⟩⟩, World.grownBy.refl _ _⟩

end Go.Proofs.Ytccnninmkfhejaa.By

namespace Go.Proofs.Ytccnninmkfhejaa.By
open Go.RowKit
set_option linter.unusedVariables false

theorem infoI : (Try.prog.info? 3).map (fun i => (i.zero, i.size, i.bytes)) = some (some (.int .i64 0), 1, 8) := by kernel_rfl

/-- 'make([]int, n)'. -/
theorem makeI (n : Nat) (hn : n ≤ 4194304) (w : World) : (Instr.makeSlice 23 (.int .i64 (n : Int)) (.int .i64 (n : Int))).run Try.prog w = .ok (.slice (some ⟨w.heap.size, 0, none⟩) n n) (w.alloc (.cells (madeCells #[.int .i64 0] n) 3)) := by
  obtain ⟨i0, hi, hz0, hz1, hz2⟩ := info_parts infoI
  have h := run_make (P := Try.prog) (w := w) 23 3 i0 (.int .i64 0) Try.underlying23 hi hz0 .i64 .i64 (n : Int) (n : Int) (by omega) (by omega) (by rw [hz2]; omega) (by omega)
  rw [hz1] at h
  simpa [Value.cells] using h
theorem makeI0 (w : World) : (Instr.makeSlice 23 (.int .i64 0) (.int .i64 0)).run Try.prog w = .ok (.slice (some ⟨w.heap.size, 0, none⟩) 0 0) (w.alloc (.cells (madeCells #[.int .i64 0] 0) 3)) := makeI 0 (by omega) w

theorem madeI_row (w : World) (n : Nat) : RowI (w.alloc (.cells (madeCells #[.int .i64 0] n) 3)) 3 w.heap.size n (List.replicate n 0) := by
  refine ⟨_, heap_alloc_new w _, ?_, ?_, by simp⟩
  · have := congrArg List.length (toList_madeCells_one (.int .i64 0) n); simpa using this
  · rw [toList_madeCells_one]; simp [valsI]

end Go.Proofs.Ytccnninmkfhejaa.By
