/-
  How great rows and trees are, as the law counts: by their contracts. No statement is proved here.
-/
import Derived.Test.YtbeejgacdcncgaaGI
import Derived.Test.YtbeejgacdcncgaaTLaw
namespace Go.Proofs.Ytbeejgacdcncgaa.By
open Go.RowKit
set_option linter.unusedVariables false
set_option linter.unusedSimpArgs false

def SzW (L : Int) (t : Nat) (e : Ending) : Prop := ∃ r, e = .returned (.int .i64 r) ∧ (r = -1 ∨ (0 ≤ r ∧ r + t ≤ L))

set_option maxHeartbeats 400000 in
theorem szByW (a : Option Addr) (n c : Nat) (zs : List Int) (L : Int) (w : World) (h : RdB w a n zs) (h0 : 0 ≤ L) (h1 : L ≤ 1048576) :
    Calls Try.prog 9 #[.slice a n c, .int .i64 L] w fun e u => SzW L zs.length e ∧ w.grownBy u none := by
  have hn := h.2.2
  have hl := h.1.1
  clear h
  by_cases hneg : L - (n : Int) < 0
  · go_enter Try.func9, Try.ntmps9
    go_wp2
    go_ret
    exact ⟨⟨-1, rfl, .inl rfl⟩, World.grownBy.refl _ _⟩
  · go_enter Try.func9, Try.ntmps9
    go_wp2
    go_ret
    exact ⟨⟨_, rfl, .inr ⟨by omega, by omega⟩⟩, World.grownBy.refl _ _⟩

set_option maxHeartbeats 400000 in
theorem szInW (a : Option Addr) (n c : Nat) (zs : List Int) (L : Int) (w : World) (h : RdI w a n zs) (h0 : 0 ≤ L) (h1 : L ≤ 1048576) :
    Calls Try.prog 30 #[.slice a n c, .int .i64 L] w fun e u => SzW L zs.length e ∧ w.grownBy u none := by
  have hn := h.2
  have hl := h.1.1
  clear h
  by_cases hneg : L - (n : Int) < 0
  · go_enter Try.func30, Try.ntmps30
    go_wp2
    go_ret
    exact ⟨⟨-1, rfl, .inl rfl⟩, World.grownBy.refl _ _⟩
  · go_enter Try.func30, Try.ntmps30
    go_wp2
    go_ret
    exact ⟨⟨_, rfl, .inr ⟨by omega, by omega⟩⟩, World.grownBy.refl _ _⟩

theorem szTrW (d : F) (k n : Int) (a : Option Addr) (l c : Nat) (L : Int) (w : World) (h : SlF w a l d) (h0 : 0 ≤ L) (h1 : L ≤ 1048576) :
    Calls Try.prog 10 #[.agg #[.int .i64 k, .int .i64 n, .slice a l c], .int .i64 L] w fun e u => SzW L d.size e ∧ w.grownBy u none := by
  refine (szTr d k n a l c L w h h0 h1).mono ?_
  rintro e u ⟨he, hg⟩
  refine ⟨⟨_, he, ?_⟩, hg⟩
  unfold szV
  split
  · exact .inr ⟨by omega, by omega⟩
  · exact .inl rfl
end Go.Proofs.Ytbeejgacdcncgaa.By
