/-
  Several texts in one (HMk, HHelp, TVb). No statement is proved here.
-/
import Derived.Test.YtmlganaiajhjeaaRows
import Derived.Test.YtmlganaiajhjeaaHBaseAlso
import Derived.WalkKit
import Derived.ProofKit
import Derived.WalkSpells
import Derived.RegionTactic
import Derived.Deep.QuietTactic
import Derived.BigQuiet
import Derived.Test.YtmlganaiajhjeaaTShapeAlso
import Derived.Test.YtmlganaiajhjeaaTMark
import Derived.Test.YtmlganaiajhjeaaTSize
namespace Go.Proofs.Ytmlganaiajhjeaa.By
open Go.RowKit
set_option linter.unusedVariables false

end Go.Proofs.Ytmlganaiajhjeaa.By

namespace Go.Proofs.Ytmlganaiajhjeaa.By
open Go.RowKit
set_option linter.unusedVariables false

end Go.Proofs.Ytmlganaiajhjeaa.By

namespace Go.Proofs.Ytmlganaiajhjeaa.By
open Go.RowKit
set_option linter.unusedVariables false
set_option linter.unusedSimpArgs false

theorem InF.belowV {w w' : World} {f : F} {b off : Nat} (h : InF w f b off) (hb : Below w.heap.size w w') : InF w' f b off :=
  h.cells fun p v hv => by rw [hb.cell (p := p) (block_lt_of_cell hv)]; exact hv
theorem grown_of_belowV {w w' : World} (h : Below w.heap.size w w') : w.grownBy w' none := ⟨h.os, h.tape, h.output, h.size, fun k hk _ => h.block k hk⟩
/-- Blocks below B have not turned, nor any that is no row of ints. -/
structure FrI (B : Nat) (w u : World) : Prop where
  below : Below B w u
  other : ∀ (i : Nat) (cur : Array Value) (t : TypeId) (r : Nat × Nat), w.heap[i]? = some (.cells cur t r) → t ≠ 3 → u.heap[i]? = some (.cells cur t r)
theorem FrI.refl (B : Nat) (w : World) : FrI B w w := ⟨Below.refl _ _, fun _ _ _ _ h _ => h⟩
theorem FrI.trans {B : Nat} {a b c : World} (h : FrI B a b) (k : FrI B b c) : FrI B a c := ⟨h.below.trans k.below, fun i cur t r hi ht => k.other i cur t r (h.other i cur t r hi ht) ht⟩
theorem FrI.grown {B : Nat} {w u : World} (h : w.grownBy u none) (hB : B ≤ w.heap.size) : FrI B w u :=
  ⟨(Below.refl B w).grown h hB (fun k hk => by cases hk), fun i cur t r hi _ => (h.block i (lt_of_block hi) (by simp)).trans hi⟩
theorem FrI.own {B N : Nat} {w u : World} {v : Value} {xs : List Value} (h : w.grownBy u v.ownBlock) (ho : w.ownsRow B 3 1 v N xs) (hB : B ≤ w.heap.size) : FrI B w u := by
  refine ⟨(Below.refl B w).grown h hB (fun k hk => (ho.lt k hk).1), fun i cur t r hi ht => (h.block i (lt_of_block hi) ?_).trans hi⟩
  rcases ho.2 with ⟨rfl, _⟩ | ⟨g, cap, cur', rfl, _, hg, _⟩
  · simp [Value.ownBlock]
  · simp only [Value.ownBlock]
    intro e
    injection e with e
    subst e
    rw [hg] at hi
    injection hi with hi
    injection hi with _ h2
    exact ht h2.symm
theorem FrI.three {B g : Nat} {w u : World} {t : TypeId} {c0 c1 c2 : Value} (f : FrI B w u) (h : w.heap[g]? = some (.cells #[c0, c1, c2] t (0, 0))) (ht : t ≠ 3) : u.heap[g]? = some (.cells #[c0, c1, c2] t (0, 0)) := f.other _ _ _ _ h ht

/-- A row of ints of our own, from block B on, or none. -/
def OwI (B : Nat) (w : World) (a : Option Addr) (n c : Nat) (zs : List Int) : Prop := w.ownsRow B 3 1 (.slice a n c) n (valsI zs) ∧ zs.length = n
theorem OwI.reads {B n c : Nat} {w : World} {a : Option Addr} {zs : List Int} (h : OwI B w a n c zs) : ReadsI w a n zs := by
  obtain ⟨h, hl⟩ := h
  rcases h.2 with ⟨_, h0⟩ | ⟨g, cap, cur, e, _, hg, hn, _, hs, ht⟩
  · exact ⟨hl, .inl h0⟩
  · injection e with e1 e2 e3
    subst e1
    have hr : RowI w 3 g cap zs := ⟨cur, hg, by omega, by rw [hl]; simpa using ht, by omega⟩
    exact hr.reads' hl
theorem OwI.kept {B n c : Nat} {w u : World} {a : Option Addr} {zs : List Int} (h : OwI B w a n c zs) (hg : w.grownBy u none) : OwI B u a n c zs := ⟨h.1.kept hg (Classical.em _), h.2⟩
theorem OwI.of {B n c : Nat} {w u : World} {a : Option Addr} {zs : List Int} (h : OwI B w a n c zs) (hg : ∀ g cur, w.heap[g]? = some (.cells cur 3 (0, 0)) → some g = (Value.slice a n c).ownBlock → u.heap[g]? = w.heap[g]?) : OwI B u a n c zs := by
  obtain ⟨⟨h1, h⟩, hl⟩ := h
  refine ⟨⟨h1, ?_⟩, hl⟩
  rcases h with h | ⟨g, cap, cur, e, hB, hc, r⟩
  · exact .inl h
  · have e2 := hg g cur hc (by rw [e]; rfl)
    exact .inr ⟨g, cap, cur, e, hB, by rw [e2]; exact hc, r⟩
theorem OwI.mono {B B' n c : Nat} {w : World} {a : Option Addr} {zs : List Int} (h : OwI B w a n c zs) (hB : B' ≤ B) : OwI B' w a n c zs := by
  obtain ⟨⟨h1, h⟩, hl⟩ := h
  refine ⟨⟨h1, ?_⟩, hl⟩
  rcases h with h | ⟨g, cap, cur, e, hb, r⟩
  · exact .inl h
  · exact .inr ⟨g, cap, cur, e, Nat.le_trans hB hb, r⟩
theorem OwI.lt {B n c : Nat} {w : World} {a : Option Addr} {zs : List Int} (h : OwI B w a n c zs) : ∀ g, (Value.slice a n c).ownBlock = some g → B ≤ g ∧ g < w.heap.size := fun g hg => h.1.lt g hg
theorem OwI.nil (B : Nat) (w : World) : OwI B w none 0 0 [] := ⟨⟨rfl, .inl ⟨rfl, rfl⟩⟩, rfl⟩
theorem OwI.tn {B n c : Nat} {w u : World} {a : Option Addr} {zs : List Int} {bs : List Nat} (h : OwI B w a n c zs) (ht : Tn w u bs) (hb : ∀ g ∈ bs, ∃ cur, w.heap[g]? = some (.cells cur 25 (0, 0))) : OwI B u a n c zs :=
  h.of fun g cur hc _ => ht.block g (lt_of_block hc) (fun hm => by
    obtain ⟨cur', hc'⟩ := hb g hm
    rw [hc] at hc'
    injection hc' with hc'
    injection hc' with _ h2
    exact absurd h2 (by decide))
/-- Marks on a row leave every other row as it was. -/
theorem OwI.far {B B' n n' c c' : Nat} {w u : World} {a a' : Option Addr} {zs : List Int} (h : OwI B w a n c zs) (hg : w.grownBy u (Value.slice a' n' c').ownBlock) (hne : ∀ g, (Value.slice a n c).ownBlock = some g → (Value.slice a' n' c').ownBlock ≠ some g) : OwI B u a n c zs :=
  h.of fun g cur hc hb => hg.block g (lt_of_block hc) (fun e => hne g hb.symm e.symm)

/-- A block that is no row of ints is far from one that is. -/
theorem OwI.box {B n c p : Nat} {w u : World} {a : Option Addr} {zs : List Int} {cur : Array Value} {t : TypeId} {r : Nat × Nat} (h : OwI B w a n c zs) (hg : w.grownBy u (Value.slice a n c).ownBlock) (hp : w.heap[p]? = some (.cells cur t r)) (ht : t ≠ 3) : u.heap[p]? = some (.cells cur t r) := by
  refine (hg.block p (lt_of_block hp) (fun e => ?_)).trans hp
  rcases h.1.2 with ⟨e1, _⟩ | ⟨g, cap, cur', e1, _, hc, _⟩
  · rw [e1] at e; cases e
  · rw [e1] at e
    injection e with e
    subst e
    rw [hc] at hp
    injection hp with hp
    injection hp with _ h2
    exact ht h2.symm
theorem OwI.grown {A B n c : Nat} {v w u : World} {a : Option Addr} {zs : List Int} (h : OwI B w a n c zs) (hg : w.grownBy u (Value.slice a n c).ownBlock) (h0 : v.grownBy w none) (hA : v.heap.size ≤ B) : v.grownBy u none :=
  ⟨hg.os.trans h0.os, hg.tape.trans h0.tape, hg.output.trans h0.output, Nat.le_trans h0.size hg.size, fun i hi _ => (hg.block i (Nat.lt_of_lt_of_le hi h0.size) (fun e => by have := (h.lt i e.symm).1; omega)).trans (h0.block i hi (by simp))⟩

theorem SlO.blkV {w : World} {t : TypeId} {f : F} {a : Option Addr} {l c : Nat} {bs : List Nat} (h : SlO w t a l c f bs) : ∀ g ∈ bs, ∃ cur, w.heap[g]? = some (.cells cur t (0, 0)) := by
  have key : ∀ (f : F) (b off : Nat) (bs : List Nat), OwnF w t f b off bs → ∀ g ∈ bs, ∃ cur, w.heap[g]? = some (.cells cur t (0, 0)) := by
    intro f
    induction f with
    | nil => intro b off bs h g hg; rw [show bs = [] from h] at hg; simp at hg
    | cons k n d r ihd ihr =>
      intro b off bs h g hg
      obtain ⟨bs1, bs2, rfl, ⟨a, l, c, h0, h1, h2, h3, h4, h5, h6⟩, hr⟩ := h
      rcases List.mem_append.1 hg with hg | hg
      · rcases h6 with ⟨_, rfl⟩ | ⟨g', bs', _, _, rfl, ⟨cur, hb, _⟩, h6⟩
        · simp at hg
        · rcases List.mem_cons.1 hg with rfl | hg
          · exact ⟨cur, hb⟩
          · exact ihd _ _ _ h6 g hg
      · exact ihr _ _ _ hr g hg
  obtain ⟨h1, h2, h3, h4⟩ := h
  intro g hg
  rcases h4 with ⟨_, rfl⟩ | ⟨g', bs', _, _, rfl, ⟨cur, hb, _⟩, h6⟩
  · simp at hg
  · rcases List.mem_cons.1 hg with rfl | hg
    · exact ⟨cur, hb⟩
    · exact key _ _ _ _ h6 g hg
theorem infoV : (Try.prog.info? 3).map (fun i => (i.zero, i.size, i.bytes)) = some (some (.int .i64 0), 1, 8) := by kernel_rfl
theorem newsV {w : World} {b off n : Nat} {zs : List Int} (hl : zs.length = n) (hc : ∀ i, i < n → w.cell? ⟨b, off + i, none⟩ = some (.int .i64 (zs.getD i 0))) : ∀ j u, (valsI zs)[j]? = some u → w.cell? ((⟨b, off, none⟩ : Addr).add j) = some u := by
  intro j u hu
  have hj : j < zs.length := by
    have := (List.getElem?_eq_some_iff.1 hu).1; simpa [valsI] using this
  have e : (valsI zs)[j]? = some (.int .i64 (zs.getD j 0)) := by simp [valsI, hj]
  rw [e] at hu
  rw [Go.WideShapes.add_plain, hc j (by omega), hu]
theorem oneV (zs : List Int) : ∀ u ∈ valsI zs, u.oneCell' = true := by
  intro u hu
  simp only [valsI, List.mem_map] at hu
  obtain ⟨x, _, rfl⟩ := hu
  rfl
theorem run_appI {P : Program} {w : World} (t ty : TypeId) (B : Nat) (i : TypeInfo) (z : Value) (ht : P.underlying t = some (.slice 3)) (hi : P.info? 3 = some i) (hz : i.zero = some z)
    (hsize : i.size = 1) (hby : i.bytes = 8) (hzs : z.cells.size = 1) (v : Value) (n : Nat) (zs : List Int) (hown : w.ownsRow B 3 1 v n (valsI zs)) (src : Option Addr) (m c : Nat) (ys : List Int)
    (hr : ReadsI w src m ys) (hn : src = none → c = 0) (hm : n + m ≤ 1048576) (hB : B ≤ w.heap.size) :
    ∃ v' w', (Builtin.append_ #[t, t] ty #[v, .slice src m c]).run P w = .ok v' w' ∧ w'.ownsRow B 3 1 v' (n + m) (valsI (zs ++ ys)) ∧ w.grownBy w' v.ownBlock ∧ (v' = .slice none 0 0 ↔ v = .slice none 0 0 ∧ m = 0) := by
  obtain ⟨hl, hr⟩ := hr
  cases src with
  | none =>
    obtain rfl := hn rfl
    obtain rfl : m = 0 := by
      rcases hr with h | ⟨_, _, h, _⟩
      · exact h
      · cases h
    obtain rfl : ys = [] := List.eq_nil_of_length_eq_zero (by omega)
    exact ⟨v, w, run_append_owned_none (P := P) (w := w) B t ty 3 i 1 ht hi v n _ hown, by simpa using hown, World.grownBy.refl _ _, by simp⟩
  | some ad =>
    have hnews : ∀ j u, (valsI ys)[j]? = some u → w.cell? (ad.add j) = some u := by
      rcases hr with h | ⟨b, off, h, hc⟩
      · have : ys = [] := List.eq_nil_of_length_eq_zero (by omega)
        subst this
        intro j u hu; simp [valsI] at hu
      · cases h; exact newsV hl hc
    obtain ⟨v', w', h1, h2, h3, h4⟩ := run_append_own (P := P) w B t ty 3 i z 1 8 ht hi hz hsize hby hzs (by decide) v n (valsI zs) hown ad m c (valsI ys) (by simp [valsI, hl]) hnews (oneV ys) (by simp [maxLen]; omega) (by omega) hB
    exact ⟨v', w', h1, by simpa [valsI] using h2, h3, h4⟩
theorem wpList_appI {P : Program} {w : World} {ops : Array Oper} {rest : List Oper} {o : Oper} {ac : Act} {Q : Exit → Act → World → Prop}
    (hg : o.guard = none) (s x : Operand) (t : TypeId) (ho : o.op = .call { callee := .builtin .append, args := #[s, x], argTypes := #[t, t] })
    (B : Nat) (i : TypeInfo) (z : Value) (ht : P.underlying t = some (.slice 3)) (hi : P.info? 3 = some i) (hz : i.zero = some z) (hsize : i.size = 1) (hby : i.bytes = 8) (hzs : z.cells.size = 1)
    (v : Value) (n : Nat) (zs : List Int) (hs : ac.eval s = v) (hown : w.ownsRow B 3 1 v n (valsI zs)) (src : Option Addr) (m c : Nat) (ys : List Int) (hx : ac.eval x = .slice src m c) (hr : ReadsI w src m ys) (hn : src = none → c = 0) (hm : n + m ≤ 1048576) (hB : B ≤ w.heap.size)
    (H : ∀ v' w', w'.ownsRow B 3 1 v' (n + m) (valsI (zs ++ ys)) → w.grownBy w' v.ownBlock → (v' = .slice none 0 0 ↔ v = .slice none 0 0 ∧ m = 0) → wpList P ops Q rest (ac.put o.dst v') w') :
    wpList P ops Q (o :: rest) ac w := by
  refine wpList_plain hg fun K hK => ?_
  obtain ⟨v', w', hr', h2, h3, h4⟩ := run_appI (P := P) (w := w) t o.type B i z ht hi hz hsize hby hzs v n zs hown src m c ys hr hn hm hB
  unfold Oper.wp execOp
  simp only [ho, resolve, invoke, builtin, Sem.run_bind, Sem.run_pure, Result.andThen_ok, List.map_toArray, List.map_cons, List.map_nil, hs, hx, hr']
  exact hK _ _ (H v' w' h2 h3 h4)
theorem readsOne (w : World) (x : Int) (t : TypeId) : ReadsI (w.alloc (.cells #[.int .i64 x] t)) (some ⟨w.heap.size, 0, none⟩) 1 [x] := by
  refine ⟨rfl, .inr ⟨_, _, rfl, fun i hi => ?_⟩⟩
  obtain rfl : i = 0 := by omega
  have hb := heap_alloc_new w (.cells #[.int .i64 x] t)
  unfold World.cell?
  rw [hb]
  rfl
/-- No kind but 7 has the shape of a variable. -/
theorem notVar {k : Int} (h : k ≠ 7) (w : World) : Sem.run Try.prog (Instr.typeAssert (shpV k) 101 106 true) w = .ok (.tuple #[.agg #[], .bool false]) w := by
  unfold shpV
  by_cases h6 : k = 6
  · rw [if_pos h6]; exact asVarData w
  · rw [if_neg h6, if_neg h]
    by_cases hx : k < 0 ∨ 7 < k
    · rw [if_pos hx]; exact asVarNo w
    · rw [if_neg hx]; exact asVarFix _ w
/-- What a row of our own is. -/
theorem ownsV {B n : Nat} {w : World} {v : Value} {zs : List Int} (h : w.ownsRow B 3 1 v n (valsI zs)) : zs.length = n ∧ ∃ a c, v = .slice a n c ∧ OwI B w a n c zs := by
  have hl : zs.length = n := by have := h.1; simpa [valsI] using this
  refine ⟨hl, ?_⟩
  rcases h.2 with ⟨rfl, h0⟩ | ⟨g, cap, cur, rfl, _⟩
  · subst h0; exact ⟨none, 0, rfl, h, hl⟩
  · exact ⟨_, _, rfl, h, hl⟩
end Go.Proofs.Ytmlganaiajhjeaa.By
