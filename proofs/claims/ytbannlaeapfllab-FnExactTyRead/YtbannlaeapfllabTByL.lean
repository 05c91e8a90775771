/-
  TyBytes of both sides by their contracts; rows of bytes that are our own, compared, marked and held. No statement is proved here.
-/
import Derived.Test.YtbannlaeapfllabTBytesI
import Derived.Test.YtbannlaeapfllabTSize
import Derived.Test.YtbannlaeapfllabTMark
import Derived.Test.YtbannlaeapfllabHelp
namespace Go.Proofs.Ytbannlaeapfllab.By
open Go.RowKit
set_option linter.unusedVariables false
set_option linter.unusedSimpArgs false

/-- What TyBytes answers. -/
def bytesV (k n : Int) (d : F) : List Int := if okT k n d = true then tyB k n d else []
/-- A row of bytes of our own, from block B on, or none. -/
def OwB (B : Nat) (w : World) (a : Option Addr) (n c : Nat) (zs : List Int) : Prop := w.ownsRow B 5 1 (.slice a n c) n (vals zs) ∧ zs.length = n
theorem OwB.reads {B n c : Nat} {w : World} {a : Option Addr} {zs : List Int} (h : OwB B w a n c zs) : Reads w a n zs := by
  obtain ⟨h, hl⟩ := h
  rcases h.2 with ⟨_, h0⟩ | ⟨g, cap, cur, e, _, hg, hn, _, hs, ht⟩
  · exact ⟨hl, .inl h0⟩
  · injection e with e1 e2 e3
    subst e1
    have hr : Row w g cap zs := ⟨cur, hg, by omega, by rw [hl]; simpa using ht, by omega⟩
    exact hr.reads' hl
theorem OwB.kept {B n c : Nat} {w u : World} {a : Option Addr} {zs : List Int} (h : OwB B w a n c zs) (hg : w.grownBy u none) : OwB B u a n c zs := ⟨h.1.kept hg (Classical.em _), h.2⟩
theorem OwB.of {B n c : Nat} {w u : World} {a : Option Addr} {zs : List Int} (h : OwB B w a n c zs) (hg : ∀ g cur, w.heap[g]? = some (.cells cur 5 (0, 0)) → some g = (Value.slice a n c).ownBlock → u.heap[g]? = w.heap[g]?) : OwB B u a n c zs := by
  obtain ⟨⟨h1, h⟩, hl⟩ := h
  refine ⟨⟨h1, ?_⟩, hl⟩
  rcases h with h | ⟨g, cap, cur, e, hB, hc, r⟩
  · exact .inl h
  · have e2 := hg g cur hc (by rw [e]; rfl)
    exact .inr ⟨g, cap, cur, e, hB, by rw [e2]; exact hc, r⟩
theorem OwB.mono {B B' n c : Nat} {w : World} {a : Option Addr} {zs : List Int} (h : OwB B w a n c zs) (hB : B' ≤ B) : OwB B' w a n c zs := by
  obtain ⟨⟨h1, h⟩, hl⟩ := h
  refine ⟨⟨h1, ?_⟩, hl⟩
  rcases h with h | ⟨g, cap, cur, e, hb, r⟩
  · exact .inl h
  · exact .inr ⟨g, cap, cur, e, Nat.le_trans hB hb, r⟩
theorem OwB.lt {B n c : Nat} {w : World} {a : Option Addr} {zs : List Int} (h : OwB B w a n c zs) : ∀ g, (Value.slice a n c).ownBlock = some g → B ≤ g ∧ g < w.heap.size := fun g hg => h.1.lt g hg
theorem OwB.nil (B : Nat) (w : World) : OwB B w none 0 0 [] := ⟨⟨rfl, .inl ⟨rfl, rfl⟩⟩, rfl⟩
theorem Acc.owB {B : Nat} {w : World} {v : Value} {zs : List Int} (h : Acc B w v zs) : ∃ a c, v = .slice a zs.length c ∧ OwB B w a zs.length c zs := by
  obtain ⟨g, cap, rfl, hB, hr, hm⟩ := h.row
  exact ⟨_, _, rfl, h.1, rfl⟩
/-- Marks on trees leave bytes as they were. -/
theorem SlO.blk {w : World} {t : TypeId} {f : F} {a : Option Addr} {l c : Nat} {bs : List Nat} (h : SlO w t a l c f bs) : ∀ g ∈ bs, ∃ cur, w.heap[g]? = some (.cells cur t (0, 0)) := by
  have key : ∀ (f : F) (b off : Nat) (bs : List Nat), OwnF w t f b off bs → ∀ g ∈ bs, ∃ cur, w.heap[g]? = some (.cells cur t (0, 0)) := by
    intro f
    induction f with
    | nil => intro b off bs h g hg; rw [show bs = [] from h] at hg; simp at hg
    | cons k n d r ihd ihr =>
      intro b off bs h g hg
      obtain ⟨bs1, bs2, rfl, ⟨a, l, c, h0, h1, h2, h3, h4, h5, h6⟩, hr⟩ := h
      rcases List.mem_append.1 hg with hg | hg
      · rcases h6 with ⟨_, rfl⟩ | ⟨g', bs', _, _, rfl, ⟨cur, hb, _⟩, h6⟩
        · simp at hg
        · rcases List.mem_cons.1 hg with rfl | hg
          · exact ⟨cur, hb⟩
          · exact ihd _ _ _ h6 g hg
      · exact ihr _ _ _ hr g hg
  obtain ⟨h1, h2, h3, h4⟩ := h
  intro g hg
  rcases h4 with ⟨_, rfl⟩ | ⟨g', bs', _, _, rfl, ⟨cur, hb, _⟩, h6⟩
  · simp at hg
  · rcases List.mem_cons.1 hg with rfl | hg
    · exact ⟨cur, hb⟩
    · exact key _ _ _ _ h6 g hg
theorem OwB.tn {B n c : Nat} {w u : World} {a : Option Addr} {zs : List Int} {bs : List Nat} (h : OwB B w a n c zs) (ht : Tn w u bs) (hb : ∀ g ∈ bs, ∃ cur, w.heap[g]? = some (.cells cur 29 (0, 0))) : OwB B u a n c zs :=
  h.of fun g cur hc _ => ht.block g (lt_of_block hc) (fun hm => by
    obtain ⟨cur', hc'⟩ := hb g hm
    rw [hc] at hc'
    injection hc' with hc'
    injection hc' with _ h2
    exact absurd h2 (by decide))
/-- Marks on a row leave every other row as it was. -/
theorem OwB.far {B B' n n' c c' : Nat} {w u : World} {a a' : Option Addr} {zs : List Int} (h : OwB B w a n c zs) (hg : w.grownBy u (Value.slice a' n' c').ownBlock) (hne : ∀ g, (Value.slice a n c).ownBlock = some g → (Value.slice a' n' c').ownBlock ≠ some g) : OwB B u a n c zs :=
  h.of fun g cur hc hb => hg.block g (lt_of_block hc) (fun e => hne g hb.symm e.symm)

set_option maxHeartbeats 400000 in
theorem markNilB (k0 : Int) (w : World) : Calls Try.prog 29 #[.slice none 0 0, .int .i64 k0] w fun e u => e = .returned (.int .i64 k0) ∧ w.grownBy u none := by
  go_enter Try.func29, Try.ntmps29
  go_wp2
  refine wp_loop_rounds 1 ?_
  rw [rounds_succ]
  go_wp2
  go_ret
  exact ⟨rfl, World.grownBy.refl _ _⟩

theorem markB (B n c : Nat) (a : Option Addr) (zs : List Int) (k0 : Int) (w : World) (h : OwB B w a n c zs) (hn : n ≤ 4194304) (hk0 : 0 ≤ k0) (hk1 : k0 ≤ 4194304) :
    Calls Try.prog 29 #[.slice a n c, .int .i64 k0] w fun e u => e = .returned (.int .i64 (k0 + n)) ∧ w.grownBy u (Value.slice a n c).ownBlock ∧ OwB B u a n c (marks k0 n) := by
  obtain ⟨⟨h1, h2⟩, hl⟩ := h
  rcases h2 with ⟨e, h0⟩ | ⟨g, cap, cur, e, hB, hc, hn', hm, hs, ht⟩
  · injection e with e1 e2 e3
    subst e1 e2 e3
    refine (markNilB k0 w).mono fun e u ⟨he, hg⟩ => ⟨by simpa using he, hg, ?_⟩
    have : marks k0 0 = [] := by simp [marks]
    rw [this]; exact OwB.nil _ _
  · injection e with e1 e2 e3
    subst e1 e3
    have hr : Row w g c zs := ⟨cur, hc, by omega, by rw [hl]; simpa using ht, by omega⟩
    refine (markT g n c zs k0 w hr hl hn hk0 hk1).mono fun e u ⟨he, hg, _, hr'⟩ => ⟨he, hg, ?_, marks_len _ _⟩
    exact own_row hr' (marks_len _ _) hB hm

set_option maxRecDepth 8000 in
set_option maxHeartbeats 1000000 in
theorem specTyBytesT (d : F) (k n : Int) (a : Option Addr) (l c : Nat) (w : World) (h : SlF w a l d) :
    Calls Try.prog 26 #[.agg #[.int .i64 k, .int .i64 n, .slice a l c]] w fun e u => ∃ a' c', e = .returned (.slice a' (bytesV k n d).length c') ∧ w.grownBy u none ∧ OwB w.heap.size u a' (bytesV k n d).length c' (bytesV k n d) := by
  have g0 : w.grownBy (w.alloc (.cells #[.int .i64 k, .int .i64 n, .slice a l c] 29)) none := World.grownBy_alloc _ _ _
  have b0 := heap_alloc_new w (.cells #[.int .i64 k, .int .i64 n, .slice a l c] 29)
  have CC : Hid _ := specTyOkT d k n a l c _ (h.none g0)
  have FX : Hid (w.grownBy _ none ∧ SlF _ a l d ∧ _ = some (Obj.cells #[.int .i64 k, .int .i64 n, .slice a l c] 29)) := ⟨g0, h.none g0, b0⟩
  have hfl := h.1
  clear h g0 b0
  go_enter Try.func26, Try.ntmps26
  go_wp2_with fail
  refine Calls.mono CC.out ?_
  rintro e u ⟨rfl, hg⟩
  obtain ⟨g0, h, b0⟩ := FX.out
  have FY : Hid (w.grownBy u none ∧ SlF u a l d ∧ _ = some (Obj.cells #[.int .i64 k, .int .i64 n, .slice a l c] 29)) := ⟨grown_trans g0 hg, h.none hg, (hg.block _ (lt_of_block b0) (by simp)).trans b0⟩
  clear FX hg CC g0 h b0
  simp only []
  cases hb : okT k n d with
  | false =>
    have E : Hid (bytesV k n d = []) := by show _ = _; unfold bytesV; rw [hb]; rfl
    go_wp2
    go_ret
    exact ⟨none, 0, by rw [E.out]; rfl, FY.out.1, by rw [E.out]; exact OwB.nil _ _⟩
  | true =>
    have E : Hid (bytesV k n d = tyB k n d) := by show _ = _; unfold bytesV; rw [if_pos hb]
    have hb' := hb
    simp only [okT, Bool.and_eq_true, decide_eq_true_eq] at hb'
    have C2 : Hid _ := l3bytesT u (d.size + 1) d k n a l c (.slice none 0 0) [] u 9 (Nat.lt_succ_self _) FY.out.2.1 (Below.refl _ _) ⟨rfl, .inl ⟨rfl, rfl⟩⟩ (by rw [← hfl]; exact hb'.1.1) hb'.1.2 (by simp; omega)
    obtain ⟨⟨x0, x1, x2⟩, -⟩ := three FY.out.2.2
    clear hb' hb
    go_wp2_with fail
    refine Calls.mono C2.out ?_
    rintro e u2 ⟨v', rfl, hA, hF⟩
    simp only [List.nil_append] at hA
    obtain ⟨a', c', rfl, hO⟩ := hA.owB
    have FIN : Hid (w.grownBy u2 none ∧ OwB w.heap.size u2 a' (tyB k n d).length c' (tyB k n d)) := ⟨grown_trans FY.out.1 (grown_of_below hF.below), hO.mono FY.out.1.size⟩
    clear C2 FY hA hF hO x0 x1 x2
    simp only []
    go_wp2
    go_ret
    exact ⟨a', c', by rw [E.out]; rfl, FIN.out.1, by rw [E.out]; exact FIN.out.2⟩

set_option maxRecDepth 8000 in
set_option maxHeartbeats 1000000 in
theorem implTyBytesT (d : F) (k n : Int) (a : Option Addr) (l c : Nat) (w : World) (h : SlF w a l d) :
    Calls Try.prog 27 #[.agg #[.int .i64 k, .int .i64 n, .slice a l c]] w fun e u => ∃ a' c', e = .returned (.slice a' (bytesV k n d).length c') ∧ w.grownBy u none ∧ OwB w.heap.size u a' (bytesV k n d).length c' (bytesV k n d) := by
  have g0 : w.grownBy (w.alloc (.cells #[.int .i64 k, .int .i64 n, .slice a l c] 29)) none := World.grownBy_alloc _ _ _
  have b0 := heap_alloc_new w (.cells #[.int .i64 k, .int .i64 n, .slice a l c] 29)
  have CC : Hid _ := implTyOkT d k n a l c _ (h.none g0)
  have FX : Hid (w.grownBy _ none ∧ SlF _ a l d ∧ _ = some (Obj.cells #[.int .i64 k, .int .i64 n, .slice a l c] 29)) := ⟨g0, h.none g0, b0⟩
  have hfl := h.1
  clear h g0 b0
  go_enter Try.func27, Try.ntmps27
  go_wp2_with fail
  refine Calls.mono CC.out ?_
  rintro e u ⟨rfl, hg⟩
  obtain ⟨g0, h, b0⟩ := FX.out
  have FY : Hid (w.grownBy u none ∧ SlF u a l d ∧ _ = some (Obj.cells #[.int .i64 k, .int .i64 n, .slice a l c] 29)) := ⟨grown_trans g0 hg, h.none hg, (hg.block _ (lt_of_block b0) (by simp)).trans b0⟩
  clear FX hg CC g0 h b0
  simp only []
  cases hb : okT k n d with
  | false =>
    have E : Hid (bytesV k n d = []) := by show _ = _; unfold bytesV; rw [hb]; rfl
    go_wp2
    go_ret
    exact ⟨none, 0, by rw [E.out]; rfl, FY.out.1, by rw [E.out]; exact OwB.nil _ _⟩
  | true =>
    have E : Hid (bytesV k n d = tyB k n d) := by show _ = _; unfold bytesV; rw [if_pos hb]
    have hb' := hb
    simp only [okT, Bool.and_eq_true, decide_eq_true_eq] at hb'
    have C2 : Hid _ := addBytesT u (d.size + 1) d k n a l c (.slice none 0 0) [] u 9 (Nat.lt_succ_self _) FY.out.2.1 (Below.refl _ _) ⟨rfl, .inl ⟨rfl, rfl⟩⟩ (by rw [← hfl]; exact hb'.1.1) hb'.1.2 (by simp; omega)
    obtain ⟨⟨x0, x1, x2⟩, -⟩ := three FY.out.2.2
    clear hb' hb
    go_wp2_with fail
    refine Calls.mono C2.out ?_
    rintro e u2 ⟨v', rfl, hA, hF⟩
    simp only [List.nil_append] at hA
    obtain ⟨a', c', rfl, hO⟩ := hA.owB
    have FIN : Hid (w.grownBy u2 none ∧ OwB w.heap.size u2 a' (tyB k n d).length c' (tyB k n d)) := ⟨grown_trans FY.out.1 (grown_of_below hF.below), hO.mono FY.out.1.size⟩
    clear C2 FY hA hF hO x0 x1 x2
    simp only []
    go_wp2
    go_ret
    exact ⟨a', c', by rw [E.out]; rfl, FIN.out.1, by rw [E.out]; exact FIN.out.2⟩

theorem bytesV_len (k n : Int) (d : F) : (bytesV k n d).length ≤ 660 := by
  unfold bytesV
  by_cases h : okT k n d = true
  · rw [if_pos h]
    simp only [okT, Bool.and_eq_true, decide_eq_true_eq] at h
    have h1 := headB_len k n d.len
    have h2 := bytesF_len d
    rw [tyB, List.length_append]; omega
  · rw [if_neg h]; simp
theorem eqB2 (a a' : Option Addr) (n c c' : Nat) (zs : List Int) (w : World) (h : Reads w a n zs) (h' : Reads w a' n zs) (hn : n ≤ 4194304) :
    Calls Try.prog 28 #[.slice a n c, .slice a' n c'] w fun e u => e = .returned (.bool true) ∧ w.grownBy u none :=
  (eqT a a' n c c' zs w h h' hn).mono fun e u ⟨he, hq⟩ => ⟨he, quiet hq⟩
theorem heldB2 (a : Option Addr) (n c : Nat) (k0 : Int) (w : World) (h : Reads w a n (marks k0 n)) (hn : n ≤ 4194304) (hk0 : 0 ≤ k0) (hk1 : k0 ≤ 4194304) :
    Calls Try.prog 30 #[.slice a n c, .int .i64 k0] w fun e u => e = .returned (.int .i64 (k0 + n)) ∧ w.grownBy u none :=
  (heldT a n c k0 w h hn hk0 hk1).mono fun e u ⟨he, hq⟩ => ⟨he, quiet hq⟩
/-- A block that is no row of bytes is far from one that is. -/
theorem OwB.box {B n c p : Nat} {w u : World} {a : Option Addr} {zs : List Int} {cur : Array Value} {t : TypeId} {r : Nat × Nat} (h : OwB B w a n c zs) (hg : w.grownBy u (Value.slice a n c).ownBlock) (hp : w.heap[p]? = some (.cells cur t r)) (ht : t ≠ 5) : u.heap[p]? = some (.cells cur t r) := by
  refine (hg.block p (lt_of_block hp) (fun e => ?_)).trans hp
  rcases h.1.2 with ⟨e1, _⟩ | ⟨g, cap, cur', e1, _, hc, _⟩
  · rw [e1] at e; cases e
  · rw [e1] at e
    injection e with e
    subst e
    rw [hc] at hp
    injection hp with hp
    injection hp with _ h2
    exact ht h2.symm
theorem OwB.grown {A B n c : Nat} {v w u : World} {a : Option Addr} {zs : List Int} (h : OwB B w a n c zs) (hg : w.grownBy u (Value.slice a n c).ownBlock) (h0 : v.grownBy w none) (hA : v.heap.size ≤ B) : v.grownBy u none :=
  ⟨hg.os.trans h0.os, hg.tape.trans h0.tape, hg.output.trans h0.output, Nat.le_trans h0.size hg.size, fun i hi _ => (hg.block i (Nat.lt_of_lt_of_le hi h0.size) (fun e => by have := (h.lt i e.symm).1; omega)).trans (h0.block i hi (by simp))⟩
end Go.Proofs.Ytbannlaeapfllab.By
