/-
  Several texts in one (Help, TByL). No statement is proved here.
-/
import Derived.Test.YtjchjdcaampghaaDoorPutJ
import Derived.Test.YtjchjdcaampghaaDoorTBytesI
import Derived.Test.YtjchjdcaampghaaDoorTSize
import Derived.Test.YtjchjdcaampghaaDoorTMarkJ
namespace Go.Proofs.YtjchjdcaampghaaDoor.By
open Go.RowKit
set_option linter.unusedVariables false

end Go.Proofs.YtjchjdcaampghaaDoor.By

namespace Go.Proofs.YtjchjdcaampghaaDoor.By
open Go.RowKit
set_option linter.unusedVariables false
set_option linter.unusedSimpArgs false

/-- What TyBytes answers. -/
def bytesV (k n : Int) (d : F) : List Int := if okT k n d = true then tyB k n d else []
/-- A row of bytes of our own, from block B on, or none. -/
def OwB (B : Nat) (w : World) (a : Option Addr) (n c : Nat) (zs : List Int) : Prop := w.ownsRow B 5 1 (.slice a n c) n (vals zs) ∧ zs.length = n
theorem OwB.reads {B n c : Nat} {w : World} {a : Option Addr} {zs : List Int} (h : OwB B w a n c zs) : Reads w a n zs := by
  obtain ⟨h, hl⟩ := h
  rcases h.2 with ⟨_, h0⟩ | ⟨g, cap, cur, e, _, hg, hn, _, hs, ht⟩
  · exact ⟨hl, .inl h0⟩
  · injection e with e1 e2 e3
    subst e1
    have hr : Row w g cap zs := ⟨cur, hg, by omega, by rw [hl]; simpa using ht, by omega⟩
    exact hr.reads' hl
theorem OwB.kept {B n c : Nat} {w u : World} {a : Option Addr} {zs : List Int} (h : OwB B w a n c zs) (hg : w.grownBy u none) : OwB B u a n c zs := ⟨h.1.kept hg (Classical.em _), h.2⟩
theorem OwB.of {B n c : Nat} {w u : World} {a : Option Addr} {zs : List Int} (h : OwB B w a n c zs) (hg : ∀ g cur, w.heap[g]? = some (.cells cur 5 (0, 0)) → some g = (Value.slice a n c).ownBlock → u.heap[g]? = w.heap[g]?) : OwB B u a n c zs := by
  obtain ⟨⟨h1, h⟩, hl⟩ := h
  refine ⟨⟨h1, ?_⟩, hl⟩
  rcases h with h | ⟨g, cap, cur, e, hB, hc, r⟩
  · exact .inl h
  · have e2 := hg g cur hc (by rw [e]; rfl)
    exact .inr ⟨g, cap, cur, e, hB, by rw [e2]; exact hc, r⟩
theorem OwB.mono {B B' n c : Nat} {w : World} {a : Option Addr} {zs : List Int} (h : OwB B w a n c zs) (hB : B' ≤ B) : OwB B' w a n c zs := by
  obtain ⟨⟨h1, h⟩, hl⟩ := h
  refine ⟨⟨h1, ?_⟩, hl⟩
  rcases h with h | ⟨g, cap, cur, e, hb, r⟩
  · exact .inl h
  · exact .inr ⟨g, cap, cur, e, Nat.le_trans hB hb, r⟩
theorem OwB.lt {B n c : Nat} {w : World} {a : Option Addr} {zs : List Int} (h : OwB B w a n c zs) : ∀ g, (Value.slice a n c).ownBlock = some g → B ≤ g ∧ g < w.heap.size := fun g hg => h.1.lt g hg
theorem OwB.nil (B : Nat) (w : World) : OwB B w none 0 0 [] := ⟨⟨rfl, .inl ⟨rfl, rfl⟩⟩, rfl⟩
theorem Acc.owB {B : Nat} {w : World} {v : Value} {zs : List Int} (h : Acc B w v zs) : ∃ a c, v = .slice a zs.length c ∧ OwB B w a zs.length c zs := by
  obtain ⟨g, cap, rfl, hB, hr, hm⟩ := h.row
  exact ⟨_, _, rfl, h.1, rfl⟩
/-- Marks on trees leave bytes as they were. -/
theorem SlO.blk {w : World} {t : TypeId} {f : F} {a : Option Addr} {l c : Nat} {bs : List Nat} (h : SlO w t a l c f bs) : ∀ g ∈ bs, ∃ cur, w.heap[g]? = some (.cells cur t (0, 0)) := by
  have key : ∀ (f : F) (b off : Nat) (bs : List Nat), OwnF w t f b off bs → ∀ g ∈ bs, ∃ cur, w.heap[g]? = some (.cells cur t (0, 0)) := by
    intro f
    induction f with
    | nil => intro b off bs h g hg; rw [show bs = [] from h] at hg; simp at hg
    | cons k n d r ihd ihr =>
      intro b off bs h g hg
      obtain ⟨bs1, bs2, rfl, ⟨a, l, c, h0, h1, h2, h3, h4, h5, h6⟩, hr⟩ := h
      rcases List.mem_append.1 hg with hg | hg
      · rcases h6 with ⟨_, rfl⟩ | ⟨g', bs', _, _, rfl, ⟨cur, hb, _⟩, h6⟩
        · simp at hg
        · rcases List.mem_cons.1 hg with rfl | hg
          · exact ⟨cur, hb⟩
          · exact ihd _ _ _ h6 g hg
      · exact ihr _ _ _ hr g hg
  obtain ⟨h1, h2, h3, h4⟩ := h
  intro g hg
  rcases h4 with ⟨_, rfl⟩ | ⟨g', bs', _, _, rfl, ⟨cur, hb, _⟩, h6⟩
  · simp at hg
  · rcases List.mem_cons.1 hg with rfl | hg
    · exact ⟨cur, hb⟩
    · exact key _ _ _ _ h6 g hg
theorem OwB.tn {B n c : Nat} {w u : World} {a : Option Addr} {zs : List Int} {bs : List Nat} (h : OwB B w a n c zs) (ht : Tn w u bs) (hb : ∀ g ∈ bs, ∃ cur, w.heap[g]? = some (.cells cur 25 (0, 0))) : OwB B u a n c zs :=
  h.of fun g cur hc _ => ht.block g (lt_of_block hc) (fun hm => by
    obtain ⟨cur', hc'⟩ := hb g hm
    rw [hc] at hc'
    injection hc' with hc'
    injection hc' with _ h2
    exact absurd h2 (by decide))
/-- Marks on a row leave every other row as it was. -/
theorem OwB.far {B B' n n' c c' : Nat} {w u : World} {a a' : Option Addr} {zs : List Int} (h : OwB B w a n c zs) (hg : w.grownBy u (Value.slice a' n' c').ownBlock) (hne : ∀ g, (Value.slice a n c).ownBlock = some g → (Value.slice a' n' c').ownBlock ≠ some g) : OwB B u a n c zs :=
  h.of fun g cur hc hb => hg.block g (lt_of_block hc) (fun e => hne g hb.symm e.symm)

set_option maxRecDepth 8000 in
set_option maxHeartbeats 1000000 in
theorem implTyBytesT (d : F) (k n : Int) (a : Option Addr) (l c : Nat) (w : World) (h : SlF w a l d) :
    Calls Tryd.prog 5 #[.agg #[.int .i64 k, .int .i64 n, .slice a l c]] w fun e u => ∃ a' c', e = .returned (.slice a' (bytesV k n d).length c') ∧ w.grownBy u none ∧ OwB w.heap.size u a' (bytesV k n d).length c' (bytesV k n d) := by
  have g0 : w.grownBy (w.alloc (.cells #[.int .i64 k, .int .i64 n, .slice a l c] 25)) none := World.grownBy_alloc _ _ _
  have b0 := heap_alloc_new w (.cells #[.int .i64 k, .int .i64 n, .slice a l c] 25)
  have CC : Hid _ := implTyOkT d k n a l c _ (h.none g0)
  have FX : Hid (w.grownBy _ none ∧ SlF _ a l d ∧ _ = some (Obj.cells #[.int .i64 k, .int .i64 n, .slice a l c] 25)) := ⟨g0, h.none g0, b0⟩
  have hfl := h.1
  clear h g0 b0
  go_enter Tryd.func5, Tryd.ntmps5
  go_wp2_with fail
  refine Calls.mono CC.out ?_
  rintro e u ⟨rfl, hg⟩
  obtain ⟨g0, h, b0⟩ := FX.out
  have FY : Hid (w.grownBy u none ∧ SlF u a l d ∧ _ = some (Obj.cells #[.int .i64 k, .int .i64 n, .slice a l c] 25)) := ⟨grown_trans g0 hg, h.none hg, (hg.block _ (lt_of_block b0) (by simp)).trans b0⟩
  clear FX hg CC g0 h b0
  simp only []
  cases hb : okT k n d with
  | false =>
    have E : Hid (bytesV k n d = []) := by show _ = _; unfold bytesV; rw [hb]; rfl
    go_wp2
    go_ret
    exact ⟨none, 0, by rw [E.out]; rfl, FY.out.1, by rw [E.out]; exact OwB.nil _ _⟩
  | true =>
    have E : Hid (bytesV k n d = tyB k n d) := by show _ = _; unfold bytesV; rw [if_pos hb]
    have hb' := hb
    simp only [okT, Bool.and_eq_true, decide_eq_true_eq] at hb'
    have C2 : Hid _ := addBytesT u (d.size + 1) d k n a l c (.slice none 0 0) [] u 9 (Nat.lt_succ_self _) FY.out.2.1 (Below.refl _ _) ⟨rfl, .inl ⟨rfl, rfl⟩⟩ (by rw [← hfl]; exact hb'.1.1) hb'.1.2 (by simp; omega)
    obtain ⟨⟨x0, x1, x2⟩, -⟩ := three FY.out.2.2
    clear hb' hb
    go_wp2_with fail
    refine Calls.mono C2.out ?_
    rintro e u2 ⟨v', rfl, hA, hF⟩
    simp only [List.nil_append] at hA
    obtain ⟨a', c', rfl, hO⟩ := hA.owB
    have FIN : Hid (w.grownBy u2 none ∧ OwB w.heap.size u2 a' (tyB k n d).length c' (tyB k n d)) := ⟨grown_trans FY.out.1 (grown_of_below hF.below), hO.mono FY.out.1.size⟩
    clear C2 FY hA hF hO x0 x1 x2
    simp only []
    go_wp2
    go_ret
    exact ⟨a', c', by rw [E.out]; rfl, FIN.out.1, by rw [E.out]; exact FIN.out.2⟩

end Go.Proofs.YtjchjdcaampghaaDoor.By
