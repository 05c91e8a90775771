/-
  Several texts in one (YTk, YDe). No statement is proved here.
-/
import Derived.Test.YtccnninmkfhejaaYFrAlso
import Derived.Maps.OwnSet
import Derived.Maps.OwnOps
import Derived.Carry
import Derived.Laws.EntriesVeiled
namespace Go.Proofs.Ytccnninmkfhejaa.By
open Go.RowKit
set_option linter.unusedVariables false
set_option linter.unusedSimpArgs false

def tk4V (x : RWorld) (A B : Int) (n : Nat) : Bool := wokV x && isW A && isW B && decide (n ≤ 64)
def takV (x : RWorld) (A B : Int) (n : Nat) : Bool := wokV x && isW A && isW B && decide (n ≤ 64) && decide (x.trace.length < 20000)
theorem takV_eq (x : RWorld) (A B : Int) (n : Nat) : takV x A B n = (tk4V x A B n && decide (x.trace.length < 20000)) := rfl

set_option maxRecDepth 200000 in
set_option maxHeartbeats 4000000 in
theorem takesT (x : RWorld) (p : Nat) (A B : Int) (a : Option Addr) (n c : Nat) (a1 : Option Addr) (l1 c1 : Nat) (a2 : Option Addr) (l2 c2 : Nat) (a3 : Option Addr) (l3 c3 : Nat) (w : World) (hn : n ≤ 9223372036854775807) (h : RdWorld w x a1 l1 a2 l2 a3 l3) (hp : AtW w p x a1 l1 c1 a2 l2 c2 a3 l3 c3) :
    Calls Try.prog 29 #[.pointer (some ⟨p, 0, none⟩), .int .i64 A, .int .i64 B, .slice a n c] w fun e u => e = .returned (.bool (tk4V x A B n)) ∧ w.grownBy u none := by
  have E : Hid (tk4V x A B n = (wokV x && isW A && isW B && decide (n ≤ 64))) := rfl
  have C : Hid _ := okWT x p a1 l1 c1 a2 l2 c2 a3 l3 c3 w h hp
  clear h hp
  go_enter Try.func29, Try.ntmps29
  go_wp2_with fail
  refine Calls.mono C.out ?_
  rintro e u ⟨rfl, hg⟩
  have G : Hid (w.grownBy u none) := hg
  clear C hg
  cases hk : wokV x with
  | false =>
    have E2 : Hid (tk4V x A B n = false) := by show _ = _; rw [E.out, hk]; rfl
    clear E
    go_wp2
    go_ret
    exact ⟨by rw [E2.out]; rfl, G.out⟩
  | true =>
  go_wp2_with fail
  refine Calls.mono (isWrappedT A u) ?_
  rintro e v ⟨rfl, rfl⟩
  cases hA : isW A with
  | false =>
    have E2 : Hid (tk4V x A B n = false) := by show _ = _; rw [E.out, hk, hA]; rfl
    clear E
    go_wp2
    go_ret
    exact ⟨by rw [E2.out]; rfl, G.out⟩
  | true =>
  go_wp2_with fail
  refine Calls.mono (isWrappedT B v) ?_
  rintro e u ⟨rfl, rfl⟩
  cases hB : isW B with
  | false =>
    have E2 : Hid (tk4V x A B n = false) := by show _ = _; rw [E.out, hk, hA, hB]; rfl
    clear E
    go_wp2
    go_ret
    exact ⟨by rw [E2.out]; rfl, G.out⟩
  | true =>
  have E2 : Hid (tk4V x A B n = decide ((n : Int) ≤ 64)) := by
    show _ = _
    rw [E.out, hk, hA, hB]
    by_cases h6 : n ≤ 64
    · have h7 : (n : Int) ≤ 64 := by omega
      rw [decide_eq_true h6, decide_eq_true h7]; rfl
    · have h7 : ¬ (n : Int) ≤ 64 := by omega
      rw [decide_eq_false h6, decide_eq_false h7]; rfl
  clear E
  go_wp2
  go_ret
  refine ⟨?_, G.out⟩
  rw [E2.out]
  rfl
end Go.Proofs.Ytccnninmkfhejaa.By

namespace Go.Proofs.Ytccnninmkfhejaa.By
open Go.RowKit
set_option linter.unusedVariables false
set_option linter.unusedSimpArgs false

def heldR (v : Value) : Option (DataW Value × List MemPlace) := some (.held v, [])
theorem keyI : Maps.Keyed Try.prog 3 := Maps.int_keyed Try.underlying3
theorem zeroTy (w : World) : (zeroValue 88).run Try.prog w = .ok (.nilFunc) w := by kernel_rfl
def I64x (x : Int) : Prop := -9223372036854775808 ≤ x ∧ x ≤ 9223372036854775807
theorem keyX {x : Int} (h : I64x x) : keyOf Try.prog 3 (.int .i64 x) = some (.int .i64 x) := Maps.keyOf_int_mk Try.underlying3 (WalkArith.wf_i64 ⟨h.1, h.2⟩)
theorem isKeyX {x : Int} (h : I64x x) : WideAt.IsKeyLit (.int .i64 x) := by simp [WideAt.IsKeyLit]
theorem lit_ne {x y : Int} (h : x ≠ y) : (Lit.int .i64 x) ≠ (Lit.int .i64 y) := fun e => h (by injection e)
def updT (T : Int → Option Value) (x : Int) (o : Option Value) (y : Int) : Option Value := if y = x then o else T y
/-- Block m is a map of at most n entries: what each variable is bound to. -/
def MapIs (w : World) (m n : Nat) (T : Int → Option Value) : Prop :=
  ∃ D, w.ownsMap Try.prog 3 heldR m n D ∧ ∀ x, I64x x → Maps.has D (.int .i64 x) = (T x).isSome ∧ ∀ v, T x = some v → ∀ z, D.atKey (.int .i64 x) z = .held v
theorem MapIs.made (w : World) : MapIs (w.alloc (.map #[] 0)) w.heap.size 0 (fun _ => none) :=
  ⟨.map [], World.ownsMap_made w _ _ _, fun x _ => ⟨rfl, fun v h => by cases h⟩⟩
theorem MapIs.kept {w u : World} {m n : Nat} {T : Int → Option Value} {row : Option Nat} (h : MapIs w m n T) (hg : w.grownBy u row) (hne : some m ≠ row) : MapIs u m n T := by
  obtain ⟨D, h1, h2⟩ := h; exact ⟨D, h1.kept hg hne, h2⟩
theorem MapIs.of {w u : World} {m n : Nat} {T : Int → Option Value} (h : MapIs w m n T) (e : u.heap[m]? = w.heap[m]?) : MapIs u m n T := by
  obtain ⟨D, ⟨es, clock, hb, r⟩, h2⟩ := h; exact ⟨D, ⟨es, clock, e.trans hb, r⟩, h2⟩
theorem MapIs.isMap {w : World} {m n : Nat} {T : Int → Option Value} (h : MapIs w m n T) : ∃ es clock, w.heap[m]? = some (.map es clock) := by
  obtain ⟨D, ⟨es, clock, hb, r⟩, h2⟩ := h; exact ⟨es, clock, hb⟩
theorem MapIs.lt {w : World} {m n : Nat} {T : Int → Option Value} (h : MapIs w m n T) : m < w.heap.size := by
  obtain ⟨D, h1, h2⟩ := h; exact h1.lt
abbrev zeroTyV : Value := .nilFunc
theorem MapIs.read {w : World} {m n : Nat} {T : Int → Option Value} {D : DataW Value} (h : ∀ x, I64x x → Maps.has D (.int .i64 x) = (T x).isSome ∧ ∀ v, T x = some v → ∀ z, D.atKey (.int .i64 x) z = .held v) {x : Int} (hx : I64x x) {v : Value} {ps : List MemPlace} (hv : heldR v = some (D.atKey (.int .i64 x) (.held zeroTyV), ps)) : v = (T x).getD zeroTyV := by
  obtain ⟨h1, h2⟩ := h x hx
  simp only [heldR, Option.some.injEq, Prod.mk.injEq] at hv
  cases hT : T x with
  | none =>
    rw [hT] at h1
    rw [Maps.atKey_of_not_has h1] at hv
    have := hv.1
    injection this with e
  | some y =>
    rw [h2 y hT] at hv
    have := hv.1
    injection this with e
theorem MapIs.look_ok {w : World} {m n : Nat} {T : Int → Option Value} (h : MapIs w m n T) {x : Int} (hx : I64x x) : (Instr.lookup 90 (.map (some m)) (.int .i64 x) true).run Try.prog w = .ok (.tuple #[(T x).getD zeroTyV, .bool (T x).isSome]) w := by
  obtain ⟨D, h1, h2⟩ := h
  obtain ⟨v, ps, hr, hv⟩ := h1.look_ok keyI Try.underlying90 (zeroTy w) (zd := .held zeroTyV) (zp := []) rfl (keyX hx)
  rw [hr, MapIs.read (w := w) (m := m) (n := n) h2 hx hv, (h2 x hx).1]
theorem MapIs.look {w : World} {m n : Nat} {T : Int → Option Value} (h : MapIs w m n T) {x : Int} (hx : I64x x) : (Instr.lookup 90 (.map (some m)) (.int .i64 x) false).run Try.prog w = .ok ((T x).getD zeroTyV) w := by
  obtain ⟨D, h1, h2⟩ := h
  obtain ⟨v, ps, hr, hv⟩ := h1.lookup keyI Try.underlying90 (zeroTy w) (zd := .held zeroTyV) (zp := []) rfl (keyX hx)
  rw [hr, MapIs.read (w := w) (m := m) (n := n) h2 hx hv]
theorem MapIs.put {w : World} {m n : Nat} {T : Int → Option Value} (h : MapIs w m n T) {x : Int} (hx : I64x x) (hn : n < 1000000) (v : Value) : ∃ w', (Instr.mapUpdate 90 (.map (some m)) (.int .i64 x) v).run Try.prog w = .ok () w' ∧ MapIs w' m (n + 1) (updT T x (some v)) ∧ w.grownBy w' (some m) := by
  obtain ⟨D, h1, h2⟩ := h
  obtain ⟨w', hr, h3, h4⟩ := h1.update keyI Try.underlying90 (by unfold maxLen; omega) (keyX hx) (val := v) (d := .held v) (ps := []) rfl
  refine ⟨w', hr, ⟨_, h3, fun y hy => ?_⟩, h4⟩
  have hD := h1.isMap
  by_cases hxy : y = x
  · subst hxy
    refine ⟨by rw [Maps.has_put_same hD (isKeyX hx)]; simp [updT], fun u hu z => ?_⟩
    rw [show updT T y (some v) y = some v from if_pos rfl] at hu
    cases hu
    exact Maps.atKey_put_same hD (isKeyX hx) _ _
  · refine ⟨by rw [Maps.has_put_other (lit_ne hxy), (h2 y hy).1]; simp [updT, hxy], fun u hu z => ?_⟩
    simp only [updT, if_neg hxy] at hu
    rw [Maps.atKey_put_other (lit_ne hxy)]
    exact (h2 y hy).2 u hu z

/-- What is to be done for each kind. -/
def deedOf (x : Int) : Option Value :=
  updT (updT (updT (updT (updT (fun _ => none) 0 (some (.func (.func 71) #[] #[]))) 1 (some (.func (.func 72) #[] #[]))) 2 (some (.func (.func 73) #[] #[]))) 3 (some (.func (.func 74) #[] #[]))) 4 (some (.func (.func 75) #[] #[])) x

set_option maxHeartbeats 2000000 in
theorem deedsT (w : World) : Calls Try.prog 58 #[] w fun e u => (∃ m n, e = .returned (.map (some m)) ∧ MapIs u m n deedOf) ∧ w.grownBy u none := by
  have hmm := @run_makeMap Try.prog
  have m0 := MapIs.made w
  have b0 : w.grownBy (w.alloc (.map #[] 0)) none := World.grownBy_alloc _ _ _
  obtain ⟨w1, r1, m1, g1⟩ := m0.put (x := 0) (by unfold I64x; omega) (by omega) (.func (.func 71) #[] #[])
  obtain ⟨w2, r2, m2, g2⟩ := m1.put (x := 1) (by unfold I64x; omega) (by omega) (.func (.func 72) #[] #[])
  obtain ⟨w3, r3, m3, g3⟩ := m2.put (x := 2) (by unfold I64x; omega) (by omega) (.func (.func 73) #[] #[])
  obtain ⟨w4, r4, m4, g4⟩ := m3.put (x := 3) (by unfold I64x; omega) (by omega) (.func (.func 74) #[] #[])
  obtain ⟨w5, r5, m5, g5⟩ := m4.put (x := 4) (by unfold I64x; omega) (by omega) (.func (.func 75) #[] #[])
  have F : Hid (MapIs w5 w.heap.size (0 + 1 + 1 + 1 + 1 + 1) deedOf ∧ w.grownBy w5 none) := ⟨m5, grown_into (grown_into (grown_into (grown_into (grown_into b0 g1 (Nat.le_refl _)) g2 (Nat.le_refl _)) g3 (Nat.le_refl _)) g4 (Nat.le_refl _)) g5 (Nat.le_refl _)⟩
  clear m0 m1 m2 m3 m4 m5 g1 g2 g3 g4 g5 b0
  go_enter Try.func58, Try.ntmps58
  go_wp2
  trace_state
  go_ret
  exact ⟨⟨_, _, rfl, F.out.1⟩, F.out.2⟩
end Go.Proofs.Ytccnninmkfhejaa.By
