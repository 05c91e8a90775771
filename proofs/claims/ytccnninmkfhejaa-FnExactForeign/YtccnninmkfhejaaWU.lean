/-
  WorldOk of both sides by their contracts. No statement is proved here.
-/
import Derived.Test.YtccnninmkfhejaaWT
import Derived.Test.YtccnninmkfhejaaIAAlso
import Derived.Test.YtccnninmkfhejaaSWorld
namespace Go.Proofs.Ytccnninmkfhejaa.By
open Go.RowKit
set_option linter.unusedVariables false
set_option linter.unusedSimpArgs false

def wokV (x : RWorld) : Bool := decide (x.draws.length ≤ 200) && decide (x.store.length ≤ 20) && decide (x.trace.length ≤ 20000) && numV x.ticks && !(x.draws.any noNum) && okTo x.store x.store.length
/-- The four cells of a world in a block. -/
def AtW (w : World) (p : Nat) (x : RWorld) (a1 : Option Addr) (l1 c1 : Nat) (a2 : Option Addr) (l2 c2 : Nat) (a3 : Option Addr) (l3 c3 : Nat) : Prop :=
  w.cell? ⟨p, 0, none⟩ = some (.int .i64 x.ticks) ∧ w.cell? ⟨p, 1, none⟩ = some (.slice a1 l1 c1) ∧ w.cell? ⟨p, 2, none⟩ = some (.slice a2 l2 c2) ∧ w.cell? ⟨p, 3, none⟩ = some (.slice a3 l3 c3)
theorem AtW.none {w u : World} {p : Nat} {x : RWorld} {a1 : Option Addr} {l1 c1 : Nat} {a2 : Option Addr} {l2 c2 : Nat} {a3 : Option Addr} {l3 c3 : Nat} (h : AtW w p x a1 l1 c1 a2 l2 c2 a3 l3 c3) (k : w.grownBy u Option.none) : AtW u p x a1 l1 c1 a2 l2 c2 a3 l3 c3 :=
  ⟨k.cell h.1 (by simp), k.cell h.2.1 (by simp), k.cell h.2.2.1 (by simp), k.cell h.2.2.2 (by simp)⟩

set_option maxRecDepth 8000 in
set_option maxHeartbeats 4000000 in
theorem okWT (x : RWorld) (p : Nat) (a1 : Option Addr) (l1 c1 : Nat) (a2 : Option Addr) (l2 c2 : Nat) (a3 : Option Addr) (l3 c3 : Nat) (w : World) (h : RdWorld w x a1 l1 a2 l2 a3 l3) (hp : AtW w p x a1 l1 c1 a2 l2 c2 a3 l3 c3) :
    Calls Try.prog 32 #[.pointer (some ⟨p, 0, none⟩)] w fun e u => e = .returned (.bool (wokV x)) ∧ w.grownBy u none := by
  have e1 := h.1.1.1
  have e2 := h.2.1.1
  have e3 := h.2.2.1
  have b1 := h.1.2
  have b2 := h.2.1.2.1
  have b3 := h.2.2.2.1
  obtain ⟨p0, p1, p2, p3⟩ := hp
  by_cases h1 : l1 ≤ 200
  rotate_left
  · have E : Hid (wokV x = false) := by show wokV x = false; simp [wokV, e1, h1]
    clear h
    go_enter Try.func32, Try.ntmps32
    go_wp2
    go_ret
    exact ⟨by rw [E.out]; rfl, World.grownBy.refl _ _⟩
  by_cases h2 : l2 ≤ 20
  rotate_left
  · have E : Hid (wokV x = false) := by show wokV x = false; simp [wokV, e1, h1, e2, h2]
    clear h
    go_enter Try.func32, Try.ntmps32
    go_wp2
    go_ret
    exact ⟨by rw [E.out]; rfl, World.grownBy.refl _ _⟩
  by_cases h3 : l3 ≤ 20000
  rotate_left
  · have E : Hid (wokV x = false) := by show wokV x = false; simp [wokV, e1, h1, e2, h2, e3, h3]
    clear h
    go_enter Try.func32, Try.ntmps32
    go_wp2
    go_ret
    exact ⟨by rw [E.out]; rfl, World.grownBy.refl _ _⟩
  have E : Hid (wokV x = (numV x.ticks && !(x.draws.any noNum) && okTo x.store x.store.length)) := by show _ = _; simp [wokV, e1, h1, e2, h2, e3, h3]
  have HN : Hid (RdWorld w x a1 l1 a2 l2 a3 l3 ∧ ∀ u, w.grownBy u none → RdWorld u x a1 l1 a2 l2 a3 l3 ∧ AtW u p x a1 l1 c1 a2 l2 c2 a3 l3 c3) := ⟨h, fun u hu => ⟨h.none hu, AtW.none ⟨p0, p1, p2, p3⟩ hu⟩⟩
  clear h e1 e2 e3
  go_enter Try.func32, Try.ntmps32
  go_wp2_with fail
  refine Calls.mono (isNumT x.ticks w) ?_
  rintro e u ⟨rfl, rfl⟩
  cases hn : numV x.ticks with
  | false =>
    have E2 : Hid (wokV x = false) := by show _ = _; rw [E.out, hn]; rfl
    clear E HN
    go_wp2
    go_ret
    exact ⟨by rw [E2.out]; rfl, World.grownBy.refl _ _⟩
  | true =>
    go_wp2_with fail
    refine Calls.mono (containsNT x.draws a1 l1 c1 u HN.out.1.1) ?_
    rintro e v ⟨rfl, hg⟩
    cases hd : x.draws.any noNum with
    | true =>
      have E2 : Hid (wokV x = false) := by show _ = _; rw [E.out, hn, hd]; rfl
      have G : Hid (u.grownBy v none) := hg
      clear E HN hg hd p0 p1 p2 p3
      go_wp2
      go_ret
      exact ⟨by rw [E2.out]; rfl, G.out⟩
    | false =>
      have E2 : Hid (wokV x = okTo x.store x.store.length) := by show _ = _; rw [E.out, hn, hd]; rfl
      have G : Hid (u.grownBy v none) := hg
      obtain ⟨hr, hq⟩ := HN.out.2 v hg
      have C : Hid _ := storeOkT x.store a2 l2 c2 p v hq.2.2.1 hr.2.1
      clear E HN hg hd p0 p1 p2 p3 hr hq
      go_wp2_with fail
      refine Calls.mono C.out ?_
      rintro e z ⟨rfl, hg⟩
      have G2 : Hid (u.grownBy z none) := grown_trans G.out hg
      clear hg C G
      rw [← E2.out]
      go_wp2
      go_ret
      exact ⟨rfl, G2.out⟩

set_option maxRecDepth 8000 in
set_option maxHeartbeats 4000000 in
theorem implWorldOkT (x : RWorld) (a1 : Option Addr) (l1 c1 : Nat) (a2 : Option Addr) (l2 c2 : Nat) (a3 : Option Addr) (l3 c3 : Nat) (w : World) (h : RdWorld w x a1 l1 a2 l2 a3 l3) :
    Calls Try.prog 9 #[.agg #[.int .i64 x.ticks, .slice a1 l1 c1, .slice a2 l2 c2, .slice a3 l3 c3]] w fun e u => e = .returned (.bool (wokV x)) ∧ w.grownBy u none := by
  have g0 := World.grownBy_alloc w (.cells #[.int .i64 x.ticks, .slice a1 l1 c1, .slice a2 l2 c2, .slice a3 l3 c3] 27) none
  have b0 := heap_alloc_new w (.cells #[.int .i64 x.ticks, .slice a1 l1 c1, .slice a2 l2 c2, .slice a3 l3 c3] 27)
  have C : Hid _ := okWT x w.heap.size a1 l1 c1 a2 l2 c2 a3 l3 c3 _ (h.none g0) (blkWorld b0).1
  have G : Hid _ := g0
  clear h g0 b0
  go_enter Try.func9, Try.ntmps9
  go_wp2_with fail
  refine Calls.mono C.out ?_
  rintro e u ⟨rfl, hg⟩
  have G2 : Hid (w.grownBy u none) := grown_trans G.out hg
  clear hg C G
  go_wp2
  go_ret
  exact ⟨rfl, G2.out⟩
end Go.Proofs.Ytccnninmkfhejaa.By
