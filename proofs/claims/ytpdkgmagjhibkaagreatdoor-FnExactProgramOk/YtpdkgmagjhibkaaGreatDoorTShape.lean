/-
  The program's shapes of kinds, by contracts. No statement is proved here.
-/
import Derived.Test.YtpdkgmagjhibkaaGreatDoorTByAlso
import Derived.Deep.RegionHeld
namespace Go.Proofs.YtpdkgmagjhibkaaGreatDoor.By
open Go.RowKit
set_option linter.unusedVariables false
set_option linter.unusedSimpArgs false

/-- What the table has for the kinds below 6. -/
def fixV (k : Int) : Value :=
  if k = 1 then .agg #[.string ⟨#[105, 110, 116]⟩, .int .i64 0, .bool false]
  else if k = 2 then .agg #[.string ⟨#[116, 101, 120, 116]⟩, .int .i64 0, .bool true]
  else if k = 3 then .agg #[.string ⟨#[112, 97, 105, 114]⟩, .int .i64 2, .bool true]
  else if k = 4 then .agg #[.string ⟨#[102, 117, 110]⟩, .int .i64 2, .bool true]
  else if k = 5 then .agg #[.string ⟨#[114, 101, 102]⟩, .int .i64 1, .bool true]
  else .agg #[.string ⟨#[117, 110, 105, 116]⟩, .int .i64 0, .bool false]
/-- The shape of a kind. -/
def shpV (k : Int) : Value :=
  if k = 6 then .iface 176 (.agg #[])
  else if k = 7 then .iface 175 (.agg #[])
  else if k < 0 ∨ 7 < k then .iface 186 (.agg #[])
  else .iface 188 (fixV k)

theorem fixT (k : Int) (h0 : 0 ≤ k) (h1 : k ≤ 5) (w : World) :
    Calls Tryz.prog 145 #[.int .i64 k] w fun e u => e = .returned (fixV k) ∧ w.grownBy u none := by
  have hk : k = 0 ∨ k = 1 ∨ k = 2 ∨ k = 3 ∨ k = 4 ∨ k = 5 := by omega
  clear h0 h1
  rcases hk with rfl | rfl | rfl | rfl | rfl | rfl
  all_goals (go_enter Tryz.func145, Tryz.ntmps145; go_wp2; go_returns; exact ⟨rfl, World.grownBy_alloc _ _ _⟩)

set_option maxHeartbeats 400000 in
theorem shpT (k : Int) (w : World) :
    Calls Tryz.prog 136 #[.int .i64 k] w fun e u => e = .returned (shpV k) ∧ w.grownBy u none := by
  by_cases h6 : k = 6
  · subst h6
    go_enter Tryz.func136, Tryz.ntmps136
    go_wp2
    go_ret
    exact ⟨rfl, World.grownBy.refl _ _⟩
  by_cases h7 : k = 7
  · subst h7
    go_enter Tryz.func136, Tryz.ntmps136
    go_wp2
    go_ret
    exact ⟨rfl, World.grownBy.refl _ _⟩
  by_cases hx : k < 0
  · have E : Hid (shpV k = .iface 186 (.agg #[])) := by show shpV k = _; unfold shpV; rw [if_neg h6, if_neg h7, if_pos (.inl hx)]
    go_enter Tryz.func136, Tryz.ntmps136
    go_wp2
    go_ret
    exact ⟨by rw [E.out]; rfl, World.grownBy.refl _ _⟩
  by_cases hy : 7 < k
  · have E : Hid (shpV k = .iface 186 (.agg #[])) := by show shpV k = _; unfold shpV; rw [if_neg h6, if_neg h7, if_pos (.inr hy)]
    go_enter Tryz.func136, Tryz.ntmps136
    go_wp2
    go_ret
    exact ⟨by rw [E.out]; rfl, World.grownBy.refl _ _⟩
  have E : Hid (shpV k = .iface 188 (fixV k)) := by show shpV k = _; unfold shpV; rw [if_neg h6, if_neg h7, if_neg (by omega)]
  have CC : Hid _ := fixT k (by omega) (by omega) w
  go_enter Tryz.func136, Tryz.ntmps136
  go_wp2_with fail
  refine Calls.mono CC.out ?_
  rintro e u ⟨rfl, hg⟩
  have G : Hid (w.grownBy u none) := hg
  clear hg CC
  simp only []
  go_wp2
  go_ret
  exact ⟨by rw [E.out]; rfl, G.out⟩

theorem asVarVar (w : World) : Sem.run Tryz.prog (Instr.typeAssert (.iface 175 (.agg #[])) 172 175 true) w = .ok (.tuple #[.agg #[], .bool true]) w := by kernel_rfl
theorem asVarData (w : World) : Sem.run Tryz.prog (Instr.typeAssert (.iface 176 (.agg #[])) 172 175 true) w = .ok (.tuple #[.agg #[], .bool false]) w := by kernel_rfl
theorem asVarFix (v : Value) (w : World) : Sem.run Tryz.prog (Instr.typeAssert (.iface 188 v) 172 175 true) w = .ok (.tuple #[.agg #[], .bool false]) w := by kernel_rfl
theorem asVarNo (w : World) : Sem.run Tryz.prog (Instr.typeAssert (.iface 186 (.agg #[])) 172 175 true) w = .ok (.tuple #[.agg #[], .bool false]) w := by kernel_rfl
theorem asDataVar (w : World) : Sem.run Tryz.prog (Instr.typeAssert (.iface 175 (.agg #[])) 172 176 true) w = .ok (.tuple #[.agg #[], .bool false]) w := by kernel_rfl
theorem asDataData (w : World) : Sem.run Tryz.prog (Instr.typeAssert (.iface 176 (.agg #[])) 172 176 true) w = .ok (.tuple #[.agg #[], .bool true]) w := by kernel_rfl
theorem asDataFix (v : Value) (w : World) : Sem.run Tryz.prog (Instr.typeAssert (.iface 188 v) 172 176 true) w = .ok (.tuple #[.agg #[], .bool false]) w := by kernel_rfl
theorem asDataNo (w : World) : Sem.run Tryz.prog (Instr.typeAssert (.iface 186 (.agg #[])) 172 176 true) w = .ok (.tuple #[.agg #[], .bool false]) w := by kernel_rfl
theorem asFixFix (v : Value) (w : World) : Sem.run Tryz.prog (Instr.typeAssert (.iface 188 v) 172 188 true) w = .ok (.tuple #[v, .bool true]) w := by kernel_rfl
theorem asFixVar (w : World) : Sem.run Tryz.prog (Instr.typeAssert (.iface 175 (.agg #[])) 172 188 true) w = .ok (.tuple #[.agg #[.string ⟨#[]⟩, .int .i64 0, .bool false], .bool false]) w := by kernel_rfl
theorem asFixData (w : World) : Sem.run Tryz.prog (Instr.typeAssert (.iface 176 (.agg #[])) 172 188 true) w = .ok (.tuple #[.agg #[.string ⟨#[]⟩, .int .i64 0, .bool false], .bool false]) w := by kernel_rfl
theorem asFixNo (w : World) : Sem.run Tryz.prog (Instr.typeAssert (.iface 186 (.agg #[])) 172 188 true) w = .ok (.tuple #[.agg #[.string ⟨#[]⟩, .int .i64 0, .bool false], .bool false]) w := by kernel_rfl
theorem methVar (w : World) : Sem.run Tryz.prog (method 313 175 (.agg #[]) "loop.example/g00293/impl.fits") w = .ok (166, .agg #[]) w := by kernel_rfl
theorem methData (w : World) : Sem.run Tryz.prog (method 313 176 (.agg #[]) "loop.example/g00293/impl.fits") w = .ok (168, .agg #[]) w := by kernel_rfl
theorem methNo (w : World) : Sem.run Tryz.prog (method 313 186 (.agg #[]) "loop.example/g00293/impl.fits") w = .ok (170, .agg #[]) w := by kernel_rfl
theorem methFix (v : Value) (w : World) : Sem.run Tryz.prog (method 313 188 v "loop.example/g00293/impl.fits") w = .ok (172, v) w := by kernel_rfl

set_option maxHeartbeats 400000 in
theorem varFits (n : Int) (l : Nat) (w : World) :
    Calls Tryz.prog 166 #[.agg #[], .int .i64 n, .int .i64 l] w fun e u => e = .returned (.bool (fitsB 7 n l)) ∧ w.grownBy u none := by
  have E : Hid (fitsB 7 n l = _) := fits7
  by_cases h1 : 0 ≤ n
  · by_cases h2 : n ≤ 99999
    · by_cases h3 : l = 0
      · subst h3
        have h2' : n < 100000 := by omega
        go_enter Tryz.func166, Tryz.ntmps166
        go_wp2
        go_ret
        exact ⟨by rw [E.out]; simp [h1, h2], World.grownBy_alloc _ _ _⟩
      · have h3' : ¬ (l : Int) = 0 := by omega
        have h2' : n < 100000 := by omega
        go_enter Tryz.func166, Tryz.ntmps166
        go_wp2
        go_ret
        exact ⟨by rw [E.out]; simp [h3], World.grownBy_alloc _ _ _⟩
    · have h2' : ¬ n < 100000 := by omega
      go_enter Tryz.func166, Tryz.ntmps166
      go_wp2
      go_ret
      exact ⟨by rw [E.out]; simp [h2], World.grownBy_alloc _ _ _⟩
  · go_enter Tryz.func166, Tryz.ntmps166
    go_wp2
    go_ret
    exact ⟨by rw [E.out]; simp; omega, World.grownBy_alloc _ _ _⟩

set_option maxHeartbeats 400000 in
theorem dataFits (n : Int) (l : Nat) (w : World) :
    Calls Tryz.prog 168 #[.agg #[], .int .i64 n, .int .i64 l] w fun e u => e = .returned (.bool (fitsB 6 n l)) ∧ w.grownBy u none := by
  have hl0 : (0 : Int) ≤ l := by omega
  by_cases h1 : 0 ≤ n
  · by_cases h2 : n ≤ 19
    · have h2' : n < 20 := by omega
      by_cases h3 : l ≤ 3
      · have h3' : (l : Int) ≤ 3 := by omega
        have E : Hid (fitsB 6 n l = true) := by show _ = _; rw [fits6 h3]; simp [h1, h2]
        go_enter Tryz.func168, Tryz.ntmps168
        go_wp2
        go_ret
        exact ⟨by rw [E.out]; simp [h3'], World.grownBy_alloc _ _ _⟩
      · have h3' : ¬ (l : Int) ≤ 3 := by omega
        have E : Hid (fitsB 6 n l = false) := fits6x h3
        go_enter Tryz.func168, Tryz.ntmps168
        go_wp2
        go_ret
        exact ⟨by rw [E.out]; first | rfl | (simp; done) | (simp; omega), World.grownBy_alloc _ _ _⟩
    · have h2' : ¬ n < 20 := by omega
      have E : Hid (fitsB 6 n l = false) := by
        show _ = _
        by_cases h3 : l ≤ 3
        · rw [fits6 h3]; simp [h2]
        · exact fits6x h3
      go_enter Tryz.func168, Tryz.ntmps168
      go_wp2
      go_ret
      exact ⟨by rw [E.out]; rfl, World.grownBy_alloc _ _ _⟩
  · have E : Hid (fitsB 6 n l = false) := by
      show _ = _
      by_cases h3 : l ≤ 3
      · rw [fits6 h3]; simp; omega
      · exact fits6x h3
    go_enter Tryz.func168, Tryz.ntmps168
    go_wp2
    go_ret
    exact ⟨by rw [E.out]; rfl, World.grownBy_alloc _ _ _⟩

theorem noFits (n : Int) (l : Nat) (w : World) :
    Calls Tryz.prog 170 #[.agg #[], .int .i64 n, .int .i64 l] w fun e u => e = .returned (.bool (fitsB 8 n l)) ∧ w.grownBy u none := by
  have E : Hid (fitsB 8 n l = false) := fitsx (by omega) (by omega) (by omega) (by omega) (by omega) (by omega) (by omega) (by omega)
  go_enter Tryz.func170, Tryz.ntmps170
  go_wp2
  go_ret
  exact ⟨by rw [E.out]; rfl, World.grownBy_alloc _ _ _⟩

set_option maxHeartbeats 400000 in
theorem fixFits (s : ByteArray) (b : Bool) (z n : Int) (l : Nat) (w : World) :
    Calls Tryz.prog 172 #[.agg #[.string s, .int .i64 z, .bool b], .int .i64 n, .int .i64 l] w fun e u => e = .returned (.bool (decide (n = 0) && decide ((l : Int) = z))) ∧ w.grownBy u none := by
  by_cases h1 : n = 0
  · subst h1
    go_enter Tryz.func172, Tryz.ntmps172
    go_wp2
    go_ret
    exact ⟨by simp; rfl, World.grownBy_alloc _ _ _⟩
  · go_enter Tryz.func172, Tryz.ntmps172
    go_wp2
    go_ret
    exact ⟨by simp [h1], World.grownBy_alloc _ _ _⟩
end Go.Proofs.YtpdkgmagjhibkaaGreatDoor.By
