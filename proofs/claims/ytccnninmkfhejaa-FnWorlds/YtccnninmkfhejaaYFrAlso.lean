/-
  Several texts in one (WU, YFr). No statement is proved here.
-/
import Derived.Test.YtccnninmkfhejaaWT
import Derived.Test.YtccnninmkfhejaaIAAlso
import Derived.Test.YtccnninmkfhejaaSWorld
import Derived.Laws.AppendOwnNone
import Derived.OneCell
import Derived.Lib.SmallJoins
namespace Go.Proofs.Ytccnninmkfhejaa.By
open Go.RowKit
set_option linter.unusedVariables false
set_option linter.unusedSimpArgs false

def wokV (x : RWorld) : Bool := decide (x.draws.length ≤ 200) && decide (x.store.length ≤ 20) && decide (x.trace.length ≤ 20000) && numV x.ticks && !(x.draws.any noNum) && okTo x.store x.store.length
/-- The four cells of a world in a block. -/
def AtW (w : World) (p : Nat) (x : RWorld) (a1 : Option Addr) (l1 c1 : Nat) (a2 : Option Addr) (l2 c2 : Nat) (a3 : Option Addr) (l3 c3 : Nat) : Prop :=
  w.cell? ⟨p, 0, none⟩ = some (.int .i64 x.ticks) ∧ w.cell? ⟨p, 1, none⟩ = some (.slice a1 l1 c1) ∧ w.cell? ⟨p, 2, none⟩ = some (.slice a2 l2 c2) ∧ w.cell? ⟨p, 3, none⟩ = some (.slice a3 l3 c3)
theorem AtW.none {w u : World} {p : Nat} {x : RWorld} {a1 : Option Addr} {l1 c1 : Nat} {a2 : Option Addr} {l2 c2 : Nat} {a3 : Option Addr} {l3 c3 : Nat} (h : AtW w p x a1 l1 c1 a2 l2 c2 a3 l3 c3) (k : w.grownBy u Option.none) : AtW u p x a1 l1 c1 a2 l2 c2 a3 l3 c3 :=
  ⟨k.cell h.1 (by simp), k.cell h.2.1 (by simp), k.cell h.2.2.1 (by simp), k.cell h.2.2.2 (by simp)⟩

set_option maxRecDepth 8000 in
set_option maxHeartbeats 4000000 in
theorem okWT (x : RWorld) (p : Nat) (a1 : Option Addr) (l1 c1 : Nat) (a2 : Option Addr) (l2 c2 : Nat) (a3 : Option Addr) (l3 c3 : Nat) (w : World) (h : RdWorld w x a1 l1 a2 l2 a3 l3) (hp : AtW w p x a1 l1 c1 a2 l2 c2 a3 l3 c3) :
    Calls Try.prog 32 #[.pointer (some ⟨p, 0, none⟩)] w fun e u => e = .returned (.bool (wokV x)) ∧ w.grownBy u none := by
  have e1 := h.1.1.1
  have e2 := h.2.1.1
  have e3 := h.2.2.1
  have b1 := h.1.2
  have b2 := h.2.1.2.1
  have b3 := h.2.2.2.1
  obtain ⟨p0, p1, p2, p3⟩ := hp
  by_cases h1 : l1 ≤ 200
  rotate_left
  · have E : Hid (wokV x = false) := by show wokV x = false; simp [wokV, e1, h1]
    clear h
    go_enter Try.func32, Try.ntmps32
    go_wp2
    go_ret
    exact ⟨by rw [E.out]; rfl, World.grownBy.refl _ _⟩
  by_cases h2 : l2 ≤ 20
  rotate_left
  · have E : Hid (wokV x = false) := by show wokV x = false; simp [wokV, e1, h1, e2, h2]
    clear h
    go_enter Try.func32, Try.ntmps32
    go_wp2
    go_ret
    exact ⟨by rw [E.out]; rfl, World.grownBy.refl _ _⟩
  by_cases h3 : l3 ≤ 20000
  rotate_left
  · have E : Hid (wokV x = false) := by show wokV x = false; simp [wokV, e1, h1, e2, h2, e3, h3]
    clear h
    go_enter Try.func32, Try.ntmps32
    go_wp2
    go_ret
    exact ⟨by rw [E.out]; rfl, World.grownBy.refl _ _⟩
  have E : Hid (wokV x = (numV x.ticks && !(x.draws.any noNum) && okTo x.store x.store.length)) := by show _ = _; simp [wokV, e1, h1, e2, h2, e3, h3]
  have HN : Hid (RdWorld w x a1 l1 a2 l2 a3 l3 ∧ ∀ u, w.grownBy u none → RdWorld u x a1 l1 a2 l2 a3 l3 ∧ AtW u p x a1 l1 c1 a2 l2 c2 a3 l3 c3) := ⟨h, fun u hu => ⟨h.none hu, AtW.none ⟨p0, p1, p2, p3⟩ hu⟩⟩
  clear h e1 e2 e3
  go_enter Try.func32, Try.ntmps32
  go_wp2_with fail
  refine Calls.mono (isNumT x.ticks w) ?_
  rintro e u ⟨rfl, rfl⟩
  cases hn : numV x.ticks with
  | false =>
    have E2 : Hid (wokV x = false) := by show _ = _; rw [E.out, hn]; rfl
    clear E HN
    go_wp2
    go_ret
    exact ⟨by rw [E2.out]; rfl, World.grownBy.refl _ _⟩
  | true =>
    go_wp2_with fail
    refine Calls.mono (containsNT x.draws a1 l1 c1 u HN.out.1.1) ?_
    rintro e v ⟨rfl, hg⟩
    cases hd : x.draws.any noNum with
    | true =>
      have E2 : Hid (wokV x = false) := by show _ = _; rw [E.out, hn, hd]; rfl
      have G : Hid (u.grownBy v none) := hg
      clear E HN hg hd p0 p1 p2 p3
      go_wp2
      go_ret
      exact ⟨by rw [E2.out]; rfl, G.out⟩
    | false =>
      have E2 : Hid (wokV x = okTo x.store x.store.length) := by show _ = _; rw [E.out, hn, hd]; rfl
      have G : Hid (u.grownBy v none) := hg
      obtain ⟨hr, hq⟩ := HN.out.2 v hg
      have C : Hid _ := storeOkT x.store a2 l2 c2 p v hq.2.2.1 hr.2.1
      clear E HN hg hd p0 p1 p2 p3 hr hq
      go_wp2_with fail
      refine Calls.mono C.out ?_
      rintro e z ⟨rfl, hg⟩
      have G2 : Hid (u.grownBy z none) := grown_trans G.out hg
      clear hg C G
      rw [← E2.out]
      go_wp2
      go_ret
      exact ⟨rfl, G2.out⟩

set_option maxRecDepth 8000 in
set_option maxHeartbeats 4000000 in
theorem implWorldOkT (x : RWorld) (a1 : Option Addr) (l1 c1 : Nat) (a2 : Option Addr) (l2 c2 : Nat) (a3 : Option Addr) (l3 c3 : Nat) (w : World) (h : RdWorld w x a1 l1 a2 l2 a3 l3) :
    Calls Try.prog 9 #[.agg #[.int .i64 x.ticks, .slice a1 l1 c1, .slice a2 l2 c2, .slice a3 l3 c3]] w fun e u => e = .returned (.bool (wokV x)) ∧ w.grownBy u none := by
  have g0 := World.grownBy_alloc w (.cells #[.int .i64 x.ticks, .slice a1 l1 c1, .slice a2 l2 c2, .slice a3 l3 c3] 27) none
  have b0 := heap_alloc_new w (.cells #[.int .i64 x.ticks, .slice a1 l1 c1, .slice a2 l2 c2, .slice a3 l3 c3] 27)
  have C : Hid _ := okWT x w.heap.size a1 l1 c1 a2 l2 c2 a3 l3 c3 _ (h.none g0) (blkWorld b0).1
  have G : Hid _ := g0
  clear h g0 b0
  go_enter Try.func9, Try.ntmps9
  go_wp2_with fail
  refine Calls.mono C.out ?_
  rintro e u ⟨rfl, hg⟩
  have G2 : Hid (w.grownBy u none) := grown_trans G.out hg
  clear hg C G
  go_wp2
  go_ret
  exact ⟨rfl, G2.out⟩
end Go.Proofs.Ytccnninmkfhejaa.By

namespace Go.Proofs.Ytccnninmkfhejaa.By
open Go.RowKit
set_option linter.unusedVariables false
set_option linter.unusedSimpArgs false

theorem run_append_nil0 {P : Program} {w : World} (t ty e : TypeId) (i : TypeInfo) (ht : P.underlying t = some (.slice e)) (hi : P.info? e = some i) (a : Option Addr) (c : Nat) :
    (Builtin.append_ #[t, t] ty #[.slice none 0 0, .slice a 0 c]).run P w = .ok (.slice none 0 0) w := by
  cases a <;> simp [Builtin.append_, run_underlying ht, sizeOf, typeInfo, hi, Builtin.lenOf, Builtin.firstCells, loadCells, loadCellsFrom]
theorem wpList_append_nil0 {P : Program} {w : World} {ops : Array Oper} {rest : List Oper} {o : Oper} {a : Act} {Q : Exit → Act → World → Prop} (hgd : o.guard = none) (s x : Operand) (t : TypeId)
    (ho : o.op = .call { callee := .builtin .append, args := #[s, x], argTypes := #[t, t] }) (e : TypeId) (i : TypeInfo) (ht : P.underlying t = some (.slice e)) (hi : P.info? e = some i) (b : Option Addr) (c : Nat)
    (hs : a.eval s = .slice none 0 0) (hx : a.eval x = .slice b 0 c) (h : wpList P ops Q rest (a.put o.dst (.slice none 0 0)) w) : wpList P ops Q (o :: rest) a w := by
  refine wpList_plain hgd fun K hK => ?_
  have hrun := run_append_nil0 (P := P) (w := w) t o.type e i ht hi b c
  unfold Oper.wp
  simp [execOp, ho, resolve, invoke, builtin, hs, hx, hrun, Result.andThen]
  exact hK _ _ h

theorem row_slice {w : World} {B : Nat} {t : TypeId} {size n : Nat} {v : Value} {xs : List Value} (h : w.ownsRow B t size v n xs) : ∃ a c, v = .slice a n c := by
  rcases h.2 with ⟨rfl, rfl⟩ | ⟨g, cap, cur, rfl, _⟩
  · exact ⟨none, 0, rfl⟩
  · exact ⟨_, cap, rfl⟩

/-- The values lie from an address on. -/
def Lies (w : World) (a : Option Addr) (l : Nat) (vs : List Value) : Prop := l = 0 ∨ ∃ b o, a = some ⟨b, o, none⟩ ∧ ∀ j u, vs[j]? = some u → w.cell? ⟨b, o + j, none⟩ = some u
theorem Lies.le {w u : World} {a : Option Addr} {l : Nat} {vs : List Value} (h : Lies w a l vs) (k : CLe w u) : Lies u a l vs := by
  rcases h with h | ⟨b, o, e, h⟩
  · exact .inl h
  · exact .inr ⟨b, o, e, fun j x hj => k _ _ (h j x hj)⟩

theorem infoYi : (Try.prog.info? 3).map (fun i => (i.zero, i.size, i.bytes)) = some (some (.int .i64 0), 1, 8) := by kernel_rfl
theorem infoYb : (Try.prog.info? 5).map (fun i => (i.zero, i.size, i.bytes)) = some (some (.int .u8 0), 1, 1) := by kernel_rfl
theorem infoYe : (Try.prog.info? 66).map (fun i => (i.zero, i.size, i.bytes)) = some (some (.agg #[.int .i64 0, .int .i64 0]), 2, 16) := by kernel_rfl
theorem infoYv : (Try.prog.info? 36).map (fun i => (i.zero, i.size, i.bytes)) = some (some (.agg #[.int .i64 0, .int .i64 0, .int .i64 0, .slice none 0 0, .int .i64 0]), 5, 56) := by kernel_rfl

set_option maxHeartbeats 1000000 in
theorem freshYi (vs : List Value) (a : Option Addr) (l c : Nat) (w : World) (hl : vs.length = l * 1) (h1 : ∀ u ∈ vs, u.oneCell' = true) (hr : Lies w a l vs) (hn : l ≤ 1048576) :
    Calls Try.prog 54 #[.slice a l c] w fun e w' => ∃ a' c', e = .returned (.slice a' l c') ∧ w'.ownsRow w.heap.size 3 1 (.slice a' l c') l vs ∧ w.grownBy w' none := by
  obtain ⟨i0, hi, hz0, hz1, hz2⟩ := info_parts infoYi
  rcases hr with rfl | ⟨b, o, rfl, hc⟩
  · obtain rfl : vs = [] := List.eq_nil_of_length_eq_zero (by simpa using hl)
    clear hl h1
    go_enter Try.func54, Try.ntmps54
    go_wp2_with (at_builtin; go_must (refine wpList_append_nil0 rfl (.const (.slice none 0 0)) (.tmp 3) 23 rfl 3 i0 Try.underlying23 hi a c rfl rfl ?_))
    go_wp2
    go_ret
    exact ⟨none, 0, rfl, World.ownsRow_nil _ _ _ _, World.grownBy.refl _ _⟩
  have HL : Hid _ := hl
  have H1 : Hid _ := h1
  have HC : Hid (∀ j u, vs[j]? = some u → w.cell? ((⟨b, o, none⟩ : Addr).add j) = some u) := fun j u hj => by rw [Go.WideShapes.add_plain]; exact hc j u hj
  have HO : Hid _ := World.ownsRow_nil w w.heap.size 3 1
  clear hl h1 hc
  go_enter Try.func54, Try.ntmps54
  go_wp2_with (at_builtin; go_must (refine wpList_append_own _ rfl (.const (.slice none 0 0)) (.tmp 3) 23 rfl w.heap.size 3 i0 _ 1 8 Try.underlying23 hi hz0 hz1 hz2 rfl (by decide) (.slice none 0 0) 0 [] rfl HO.out ⟨b, o, none⟩ l c vs rfl HL.out HC.out H1.out (by simp [maxLen]; omega) (by omega) (Nat.le_refl _) ?_))
  intro v w' ho hg _
  have ho' : w'.ownsRow w.heap.size 3 1 v l vs := by simpa using ho
  obtain ⟨a', c', rfl⟩ := row_slice ho'
  have FO : Hid (w'.ownsRow w.heap.size 3 1 (.slice a' l c') l vs ∧ w.grownBy w' none) := ⟨ho', by simpa [Value.ownBlock] using hg⟩
  clear ho ho' hg HL H1 HC HO
  go_wp2
  go_ret
  exact ⟨a', c', rfl, FO.out.1, FO.out.2⟩
set_option maxHeartbeats 1000000 in
theorem freshYe (vs : List Value) (a : Option Addr) (l c : Nat) (w : World) (hl : vs.length = l * 2) (h1 : ∀ u ∈ vs, u.oneCell' = true) (hr : Lies w a l vs) (hn : l ≤ 1048576) :
    Calls Try.prog 55 #[.slice a l c] w fun e w' => ∃ a' c', e = .returned (.slice a' l c') ∧ w'.ownsRow w.heap.size 66 2 (.slice a' l c') l vs ∧ w.grownBy w' none := by
  obtain ⟨i0, hi, hz0, hz1, hz2⟩ := info_parts infoYe
  rcases hr with rfl | ⟨b, o, rfl, hc⟩
  · obtain rfl : vs = [] := List.eq_nil_of_length_eq_zero (by simpa using hl)
    clear hl h1
    go_enter Try.func55, Try.ntmps55
    go_wp2_with (at_builtin; go_must (refine wpList_append_nil0 rfl (.const (.slice none 0 0)) (.tmp 3) 24 rfl 66 i0 Try.underlying24 hi a c rfl rfl ?_))
    go_wp2
    go_ret
    exact ⟨none, 0, rfl, World.ownsRow_nil _ _ _ _, World.grownBy.refl _ _⟩
  have HL : Hid _ := hl
  have H1 : Hid _ := h1
  have HC : Hid (∀ j u, vs[j]? = some u → w.cell? ((⟨b, o, none⟩ : Addr).add j) = some u) := fun j u hj => by rw [Go.WideShapes.add_plain]; exact hc j u hj
  have HO : Hid _ := World.ownsRow_nil w w.heap.size 66 2
  clear hl h1 hc
  go_enter Try.func55, Try.ntmps55
  go_wp2_with (at_builtin; go_must (refine wpList_append_own _ rfl (.const (.slice none 0 0)) (.tmp 3) 24 rfl w.heap.size 66 i0 _ 2 16 Try.underlying24 hi hz0 hz1 hz2 rfl (by decide) (.slice none 0 0) 0 [] rfl HO.out ⟨b, o, none⟩ l c vs rfl HL.out HC.out H1.out (by simp [maxLen]; omega) (by omega) (Nat.le_refl _) ?_))
  intro v w' ho hg _
  have ho' : w'.ownsRow w.heap.size 66 2 v l vs := by simpa using ho
  obtain ⟨a', c', rfl⟩ := row_slice ho'
  have FO : Hid (w'.ownsRow w.heap.size 66 2 (.slice a' l c') l vs ∧ w.grownBy w' none) := ⟨ho', by simpa [Value.ownBlock] using hg⟩
  clear ho ho' hg HL H1 HC HO
  go_wp2
  go_ret
  exact ⟨a', c', rfl, FO.out.1, FO.out.2⟩
set_option maxHeartbeats 1000000 in
theorem freshYv (vs : List Value) (a : Option Addr) (l c : Nat) (w : World) (hl : vs.length = l * 5) (h1 : ∀ u ∈ vs, u.oneCell' = true) (hr : Lies w a l vs) (hn : l ≤ 1048576) :
    Calls Try.prog 56 #[.slice a l c] w fun e w' => ∃ a' c', e = .returned (.slice a' l c') ∧ w'.ownsRow w.heap.size 36 5 (.slice a' l c') l vs ∧ w.grownBy w' none := by
  obtain ⟨i0, hi, hz0, hz1, hz2⟩ := info_parts infoYv
  rcases hr with rfl | ⟨b, o, rfl, hc⟩
  · obtain rfl : vs = [] := List.eq_nil_of_length_eq_zero (by simpa using hl)
    clear hl h1
    go_enter Try.func56, Try.ntmps56
    go_wp2_with (at_builtin; go_must (refine wpList_append_nil0 rfl (.const (.slice none 0 0)) (.tmp 3) 25 rfl 36 i0 Try.underlying25 hi a c rfl rfl ?_))
    go_wp2
    go_ret
    exact ⟨none, 0, rfl, World.ownsRow_nil _ _ _ _, World.grownBy.refl _ _⟩
  have HL : Hid _ := hl
  have H1 : Hid _ := h1
  have HC : Hid (∀ j u, vs[j]? = some u → w.cell? ((⟨b, o, none⟩ : Addr).add j) = some u) := fun j u hj => by rw [Go.WideShapes.add_plain]; exact hc j u hj
  have HO : Hid _ := World.ownsRow_nil w w.heap.size 36 5
  clear hl h1 hc
  go_enter Try.func56, Try.ntmps56
  go_wp2_with (at_builtin; go_must (refine wpList_append_own _ rfl (.const (.slice none 0 0)) (.tmp 3) 25 rfl w.heap.size 36 i0 _ 5 56 Try.underlying25 hi hz0 hz1 hz2 rfl (by decide) (.slice none 0 0) 0 [] rfl HO.out ⟨b, o, none⟩ l c vs rfl HL.out HC.out H1.out (by simp [maxLen]; omega) (by omega) (Nat.le_refl _) ?_))
  intro v w' ho hg _
  have ho' : w'.ownsRow w.heap.size 36 5 v l vs := by simpa using ho
  obtain ⟨a', c', rfl⟩ := row_slice ho'
  have FO : Hid (w'.ownsRow w.heap.size 36 5 (.slice a' l c') l vs ∧ w.grownBy w' none) := ⟨ho', by simpa [Value.ownBlock] using hg⟩
  clear ho ho' hg HL H1 HC HO
  go_wp2
  go_ret
  exact ⟨a', c', rfl, FO.out.1, FO.out.2⟩
set_option maxHeartbeats 1000000 in
theorem freshYb (vs : List Value) (a : Option Addr) (l c : Nat) (w : World) (hl : vs.length = l * 1) (h1 : ∀ u ∈ vs, u.oneCell' = true) (hr : Lies w a l vs) (hn : l ≤ 1048576) :
    Calls Try.prog 57 #[.slice a l c] w fun e w' => ∃ a' c', e = .returned (.slice a' l c') ∧ w'.ownsRow w.heap.size 5 1 (.slice a' l c') l vs ∧ w.grownBy w' none := by
  obtain ⟨i0, hi, hz0, hz1, hz2⟩ := info_parts infoYb
  rcases hr with rfl | ⟨b, o, rfl, hc⟩
  · obtain rfl : vs = [] := List.eq_nil_of_length_eq_zero (by simpa using hl)
    clear hl h1
    go_enter Try.func57, Try.ntmps57
    go_wp2_with (at_builtin; go_must (refine wpList_append_nil0 rfl (.const (.slice none 0 0)) (.tmp 3) 22 rfl 5 i0 Try.underlying22 hi a c rfl rfl ?_))
    go_wp2
    go_ret
    exact ⟨none, 0, rfl, World.ownsRow_nil _ _ _ _, World.grownBy.refl _ _⟩
  have HL : Hid _ := hl
  have H1 : Hid _ := h1
  have HC : Hid (∀ j u, vs[j]? = some u → w.cell? ((⟨b, o, none⟩ : Addr).add j) = some u) := fun j u hj => by rw [Go.WideShapes.add_plain]; exact hc j u hj
  have HO : Hid _ := World.ownsRow_nil w w.heap.size 5 1
  clear hl h1 hc
  go_enter Try.func57, Try.ntmps57
  go_wp2_with (at_builtin; go_must (refine wpList_append_own _ rfl (.const (.slice none 0 0)) (.tmp 3) 22 rfl w.heap.size 5 i0 _ 1 1 Try.underlying22 hi hz0 hz1 hz2 rfl (by decide) (.slice none 0 0) 0 [] rfl HO.out ⟨b, o, none⟩ l c vs rfl HL.out HC.out H1.out (by simp [maxLen]; omega) (by omega) (Nat.le_refl _) ?_))
  intro v w' ho hg _
  have ho' : w'.ownsRow w.heap.size 5 1 v l vs := by simpa using ho
  obtain ⟨a', c', rfl⟩ := row_slice ho'
  have FO : Hid (w'.ownsRow w.heap.size 5 1 (.slice a' l c') l vs ∧ w.grownBy w' none) := ⟨ho', by simpa [Value.ownBlock] using hg⟩
  clear ho ho' hg HL H1 HC HO
  go_wp2
  go_ret
  exact ⟨a', c', rfl, FO.out.1, FO.out.2⟩
end Go.Proofs.Ytccnninmkfhejaa.By
