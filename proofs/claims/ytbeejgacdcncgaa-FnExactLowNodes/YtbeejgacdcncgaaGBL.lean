/-
  Low: nodes with two kinds of lists in each other, as they lie in memory. No statement is proved here.
-/
import Derived.Test.YtbeejgacdcncgaaEB
import Derived.Test.YtbeejgacdcncgaaGI
namespace Go.Proofs.Ytbeejgacdcncgaa.By
open Go.RowKit
set_option linter.unusedVariables false

/-- The plain part of a node. -/
structure PL where
  k : Int
  n : Int
  m : Int
  c : Int
  lit : List Int
  tk : Int
  tn : Int
  tf : F
  uk : Int
  un : Int
  uf : F
/-- A list of nodes: of the first one the head (of an alt), its plain part, its kids and alts; and the others. -/
inductive GL : Type
  | nil : GL
  | cons (hc : Int) (hv : List Int) (p : PL) (kids alts rest : GL) : GL
def GL.len : GL → Nat
  | .nil => 0
  | .cons _ _ _ _ _ r => r.len + 1
/-- How many nodes in all. -/
def GL.cnt : GL → Nat
  | .nil => 0
  | .cons _ _ _ k a r => 1 + k.cnt + a.cnt + r.cnt
def szPL (p : PL) : Nat := p.lit.length + p.tf.size + p.uf.size
/-- How great it is as the law counts. -/
def GL.size : GL → Nat
  | .nil => 0
  | .cons hc hv p k a r => 1 + (hv.length) + szPL p + k.size + a.size + r.size
def GL.app : GL → GL → GL
  | .nil, g => g
  | .cons hc hv p k a r, g => .cons hc hv p k a (r.app g)
theorem GL.app_nil (f : GL) : f.app .nil = f := by
  induction f with
  | nil => rfl
  | cons hc hv p k a r _ _ ih => simp [GL.app, ih]
theorem GL.app_assoc (f g h : GL) : (f.app g).app h = f.app (g.app h) := by
  induction f with
  | nil => rfl
  | cons hc hv p k a r _ _ ih => simp [GL.app, ih]
theorem GL.app_len (f g : GL) : (f.app g).len = f.len + g.len := by
  induction f with
  | nil => simp [GL.app, GL.len]
  | cons hc hv p k a r _ _ ih => simp [GL.app, GL.len, ih]; omega
theorem GL.len_le (f : GL) : f.len ≤ f.size := by
  induction f with
  | nil => simp [GL.len, GL.size]
  | cons hc hv p k a r _ _ ih => simp [GL.len, GL.size]; omega
theorem GL.cnt_le (f : GL) : f.cnt ≤ f.size := by
  induction f with
  | nil => simp [GL.cnt, GL.size]
  | cons hc hv p k a r _ _ _ => simp only [GL.cnt, GL.size]; omega
theorem GL.nil_of_len {f : GL} (h : f.len = 0) : f = .nil := by
  cases f with
  | nil => rfl
  | cons hc hv p k a r => simp [GL.len] at h
theorem GL.cons_of_len {f : GL} {m : Nat} (h : f.len = m + 1) : ∃ hc hv p k a r, f = .cons hc hv p k a r ∧ r.len = m := by
  cases f with
  | nil => simp [GL.len] at h
  | cons hc hv p k a r => exact ⟨hc, hv, p, k, a, r, rfl, by simpa [GL.len] using h⟩
/-- The cells of a node from off on. -/
def CelL (w : World) (b off : Nat) (v0 v1 v2 v3 v4 v5 v6 v7 v8 v9 v10 v11 v12 : Value) : Prop := w.cell? ⟨b, off, none⟩ = some (v0) ∧ w.cell? ⟨b, off + 1, none⟩ = some (v1) ∧ w.cell? ⟨b, off + 2, none⟩ = some (v2) ∧ w.cell? ⟨b, off + 3, none⟩ = some (v3) ∧ w.cell? ⟨b, off + 4, none⟩ = some (v4) ∧ w.cell? ⟨b, off + 5, none⟩ = some (v5) ∧ w.cell? ⟨b, off + 6, none⟩ = some (v6) ∧ w.cell? ⟨b, off + 7, none⟩ = some (v7) ∧ w.cell? ⟨b, off + 8, none⟩ = some (v8) ∧ w.cell? ⟨b, off + 9, none⟩ = some (v9) ∧ w.cell? ⟨b, off + 10, none⟩ = some (v10) ∧ w.cell? ⟨b, off + 11, none⟩ = some (v11) ∧ w.cell? ⟨b, off + 12, none⟩ = some (v12)
theorem CelL.le {w u : World} {b off : Nat} {v0 v1 v2 v3 v4 v5 v6 v7 v8 v9 v10 v11 v12 : Value} (h : CelL w b off v0 v1 v2 v3 v4 v5 v6 v7 v8 v9 v10 v11 v12) (k : CLe w u) : CelL u b off v0 v1 v2 v3 v4 v5 v6 v7 v8 v9 v10 v11 v12 :=
  ⟨k _ _ h.1, k _ _ h.2.1, k _ _ h.2.2.1, k _ _ h.2.2.2.1, k _ _ h.2.2.2.2.1, k _ _ h.2.2.2.2.2.1, k _ _ h.2.2.2.2.2.2.1, k _ _ h.2.2.2.2.2.2.2.1, k _ _ h.2.2.2.2.2.2.2.2.1, k _ _ h.2.2.2.2.2.2.2.2.2.1, k _ _ h.2.2.2.2.2.2.2.2.2.2.1, k _ _ h.2.2.2.2.2.2.2.2.2.2.2.1, k _ _ h.2.2.2.2.2.2.2.2.2.2.2.2⟩
/-- The cells of an alt's head. -/
def HedL (w : World) (b off : Nat) (v0 v1 : Value) : Prop := w.cell? ⟨b, off, none⟩ = some (v0) ∧ w.cell? ⟨b, off + 1, none⟩ = some (v1)
theorem HedL.le {w u : World} {b off : Nat} {v0 v1 : Value} (h : HedL w b off v0 v1) (k : CLe w u) : HedL u b off v0 v1 :=
  ⟨k _ _ h.1, k _ _ h.2⟩
def hdL : Bool → Nat
  | false => 0
  | true => 2
def wdL : Bool → Nat
  | false => 13
  | true => 15
/-- The list lies from cell off of block b on, its parts in wp. -/
def InGL (w wp : World) : Bool → GL → Nat → Nat → Prop
  | _, .nil, _, _ => True
  | al, .cons hc hv p kids alts rest, b, off =>
    ((al = false ∧ hv = []) ∨ (al = true ∧ ∃ (e0 : Option Addr) (q0 d0 : Nat), HedL w b off (.int .i64 hc) (.slice e0 q0 d0) ∧ RdI wp e0 q0 hv)) ∧
    (∃ (a1 : Option Addr) (l1 c1 : Nat) (a2 : Option Addr) (l2 c2 : Nat) (a3 : Option Addr) (l3 c3 : Nat) (a4 : Option Addr) (l4 c4 : Nat) (a5 : Option Addr) (l5 c5 : Nat), CelL w b (off + hdL al) (.int .i64 p.k) (.int .i64 p.n) (.int .i64 p.m) (.int .i64 p.c) (.slice a1 l1 c1) (.int .i64 p.tk) (.int .i64 p.tn) (.slice a2 l2 c2) (.int .i64 p.uk) (.int .i64 p.un) (.slice a3 l3 c3) (.slice a4 l4 c4) (.slice a5 l5 c5) ∧ RdB wp a1 l1 p.lit ∧ SlF wp a2 l2 p.tf ∧ SlF wp a3 l3 p.uf ∧ (kids.len = l4 ∧ l4 ≤ 9223372036854775807 ∧ (l4 = 0 ∨ ∃ b' o', a4 = some ⟨b', o', none⟩ ∧ InGL wp wp false kids b' o')) ∧ (alts.len = l5 ∧ l5 ≤ 9223372036854775807 ∧ (l5 = 0 ∨ ∃ b' o', a5 = some ⟨b', o', none⟩ ∧ InGL wp wp true alts b' o'))) ∧
    InGL w wp al rest b (off + wdL al)
def SlGL (w : World) (al : Bool) (a : Option Addr) (l : Nat) (g : GL) : Prop :=
  g.len = l ∧ l ≤ 9223372036854775807 ∧ (l = 0 ∨ ∃ b o, a = some ⟨b, o, none⟩ ∧ InGL w w al g b o)
/-- The parts of a node. -/
def NdL (w : World) (p : PL) (kids alts : GL) (a1 : Option Addr) (l1 : Nat) (a2 : Option Addr) (l2 : Nat) (a3 : Option Addr) (l3 : Nat) (a4 : Option Addr) (l4 : Nat) (a5 : Option Addr) (l5 : Nat) : Prop := RdB w a1 l1 p.lit ∧ SlF w a2 l2 p.tf ∧ SlF w a3 l3 p.uf ∧ SlGL w false a4 l4 kids ∧ SlGL w true a5 l5 alts
theorem InGL.parts {wp up : World} (k : CLe wp up) : ∀ (g : GL) {w u : World} {al : Bool} {b off b' off' : Nat}, InGL w wp al g b off → (∀ i v, i < g.len * wdL al → w.cell? ⟨b, off + i, none⟩ = some v → u.cell? ⟨b', off' + i, none⟩ = some v) → InGL u up al g b' off' := by
  intro g
  induction g with
  | nil => intros; trivial
  | cons hc hv p kids alts rest ihk iha ihr =>
    intro w u al b off b' off' h hc
    obtain ⟨h1, ⟨a1, l1, c1, a2, l2, c2, a3, l3, c3, a4, l4, c4, a5, l5, c5, h2, h31, h32, h33, ⟨h4, h5, h6⟩, h7, h8, h9⟩, hr⟩ := h
    have hw : wdL al = hdL al + 13 := by cases al <;> rfl
    refine ⟨?_, ⟨a1, l1, c1, a2, l2, c2, a3, l3, c3, a4, l4, c4, a5, l5, c5, ?_, h31.le k, h32.le k, h33.le k, ⟨h4, h5, ?_⟩, h7, h8, ?_⟩, ihr hr (fun i v hi hv => ?_)⟩
    · rcases h1 with h1 | ⟨e, e0, q0, d0, h1, g0⟩
      · exact .inl h1
      · subst e
        exact .inr ⟨rfl, e0, q0, d0, ⟨hc 0 _ (by simp only [GL.len, wdL]; omega) h1.1, hc 1 _ (by simp only [GL.len, wdL]; omega) h1.2⟩, g0.le k⟩
    · have key : ∀ i, i < 13 → ∀ v, w.cell? ⟨b, off + hdL al + i, none⟩ = some v → u.cell? ⟨b', off' + hdL al + i, none⟩ = some v := fun i hi v hv => by
        have := hc (hdL al + i) v (by simp only [GL.len]; rw [hw, Nat.add_mul, Nat.one_mul]; omega) (by rw [← Nat.add_assoc]; exact hv)
        rw [← Nat.add_assoc] at this; exact this
      exact ⟨key 0 (by omega) _ h2.1, key 1 (by omega) _ h2.2.1, key 2 (by omega) _ h2.2.2.1, key 3 (by omega) _ h2.2.2.2.1, key 4 (by omega) _ h2.2.2.2.2.1, key 5 (by omega) _ h2.2.2.2.2.2.1, key 6 (by omega) _ h2.2.2.2.2.2.2.1, key 7 (by omega) _ h2.2.2.2.2.2.2.2.1, key 8 (by omega) _ h2.2.2.2.2.2.2.2.2.1, key 9 (by omega) _ h2.2.2.2.2.2.2.2.2.2.1, key 10 (by omega) _ h2.2.2.2.2.2.2.2.2.2.2.1, key 11 (by omega) _ h2.2.2.2.2.2.2.2.2.2.2.2.1, key 12 (by omega) _ h2.2.2.2.2.2.2.2.2.2.2.2.2⟩
    · rcases h6 with h6 | ⟨b2, o2, e, h6⟩
      · exact .inl h6
      · exact .inr ⟨b2, o2, e, ihk h6 (fun i v _ hv => k _ _ hv)⟩
    · rcases h9 with h9 | ⟨b2, o2, e, h9⟩
      · exact .inl h9
      · exact .inr ⟨b2, o2, e, iha h9 (fun i v _ hv => k _ _ hv)⟩
    · have := hc (wdL al + i) v (by simp only [GL.len]; rw [Nat.add_mul, Nat.one_mul]; omega) (by rw [← Nat.add_assoc]; exact hv)
      rw [← Nat.add_assoc] at this; exact this
theorem InGL.move {w wp u up : World} {al : Bool} {g : GL} {b off b' off' : Nat} (h : InGL w wp al g b off) (hc : ∀ i v, i < g.len * wdL al → w.cell? ⟨b, off + i, none⟩ = some v → u.cell? ⟨b', off' + i, none⟩ = some v) (k : CLe wp up) : InGL u up al g b' off' := InGL.parts k g h hc
theorem InGL.le {w wp u up : World} {al : Bool} {g : GL} {b off : Nat} (h : InGL w wp al g b off) (k : CLe w u) (k2 : CLe wp up) : InGL u up al g b off := h.move (fun i v _ hv => k _ _ hv) k2
theorem InGL.app {w wp : World} {al : Bool} {P Q : GL} {b off : Nat} (h : InGL w wp al P b off) (k : InGL w wp al Q b (off + P.len * wdL al)) : InGL w wp al (P.app Q) b off := by
  induction P generalizing off with
  | nil => simpa [GL.app, GL.len] using k
  | cons hc hv p kids alts rest _ _ ih =>
    refine ⟨h.1, h.2.1, ih h.2.2 ?_⟩
    have e : off + wdL al + rest.len * wdL al = off + (GL.cons hc hv p kids alts rest).len * wdL al := by simp only [GL.len, Nat.add_mul, Nat.one_mul]; omega
    rw [e]; exact k
theorem SlGL.le {w u : World} {al : Bool} {a : Option Addr} {l : Nat} {g : GL} (h : SlGL w al a l g) (k : CLe w u) : SlGL u al a l g := by
  obtain ⟨h1, h2, h3⟩ := h
  refine ⟨h1, h2, ?_⟩
  rcases h3 with h3 | ⟨b, o, e, h3⟩
  · exact .inl h3
  · exact .inr ⟨b, o, e, h3.le k k⟩
theorem SlGL.none {w u : World} {al : Bool} {a : Option Addr} {l : Nat} {g : GL} (h : SlGL w al a l g) (k : w.grownBy u Option.none) : SlGL u al a l g := h.le (CLe.grown k)
theorem SlGL.cases {w : World} {al : Bool} {a : Option Addr} {l : Nat} {g : GL} (h : SlGL w al a l g) : (l = 0 ∧ g = .nil) ∨ ∃ b o, a = some ⟨b, o, Option.none⟩ ∧ InGL w w al g b o ∧ 0 < l := by
  obtain ⟨h1, h2, h3⟩ := h
  by_cases h0 : l = 0
  · exact .inl ⟨h0, GL.nil_of_len (by omega)⟩
  · rcases h3 with h3 | ⟨b, o, e, h3⟩
    · exact absurd h3 h0
    · exact .inr ⟨b, o, e, h3, by omega⟩
theorem NdL.le {w u : World} {p : PL} {kids alts : GL} {a1 : Option Addr} {l1 : Nat} {a2 : Option Addr} {l2 : Nat} {a3 : Option Addr} {l3 : Nat} {a4 : Option Addr} {l4 : Nat} {a5 : Option Addr} {l5 : Nat} (h : NdL w p kids alts a1 l1 a2 l2 a3 l3 a4 l4 a5 l5) (k : CLe w u) : NdL u p kids alts a1 l1 a2 l2 a3 l3 a4 l4 a5 l5 :=
  ⟨h.1.le k, h.2.1.le k, h.2.2.1.le k, h.2.2.2.1.le k, h.2.2.2.2.le k⟩
theorem NdL.none {w u : World} {p : PL} {kids alts : GL} {a1 : Option Addr} {l1 : Nat} {a2 : Option Addr} {l2 : Nat} {a3 : Option Addr} {l3 : Nat} {a4 : Option Addr} {l4 : Nat} {a5 : Option Addr} {l5 : Nat} (h : NdL w p kids alts a1 l1 a2 l2 a3 l3 a4 l4 a5 l5) (k : w.grownBy u Option.none) : NdL u p kids alts a1 l1 a2 l2 a3 l3 a4 l4 a5 l5 := h.le (CLe.grown k)
/-- The first one of kids. -/
theorem InGL.kid {w wp : World} {hc hv} {p : PL} {kids alts rest : GL} {b off : Nat} (h : InGL w wp false (.cons hc hv p kids alts rest) b off) :
    (hv = []) ∧ ∃ (a1 : Option Addr) (l1 c1 : Nat) (a2 : Option Addr) (l2 c2 : Nat) (a3 : Option Addr) (l3 c3 : Nat) (a4 : Option Addr) (l4 c4 : Nat) (a5 : Option Addr) (l5 c5 : Nat), CelL w b off (.int .i64 p.k) (.int .i64 p.n) (.int .i64 p.m) (.int .i64 p.c) (.slice a1 l1 c1) (.int .i64 p.tk) (.int .i64 p.tn) (.slice a2 l2 c2) (.int .i64 p.uk) (.int .i64 p.un) (.slice a3 l3 c3) (.slice a4 l4 c4) (.slice a5 l5 c5) ∧ NdL wp p kids alts a1 l1 a2 l2 a3 l3 a4 l4 a5 l5 ∧ InGL w wp false rest b (off + 13) := by
  obtain ⟨h1, ⟨a1, l1, c1, a2, l2, c2, a3, l3, c3, a4, l4, c4, a5, l5, c5, h2, h3⟩, hr⟩ := h
  refine ⟨?_, a1, l1, c1, a2, l2, c2, a3, l3, c3, a4, l4, c4, a5, l5, c5, h2, h3, hr⟩
  rcases h1 with h1 | h1
  · exact h1.2
  · exact absurd h1.1 (by decide)
theorem InGL.alt {w wp : World} {hc hv} {p : PL} {kids alts rest : GL} {b off : Nat} (h : InGL w wp true (.cons hc hv p kids alts rest) b off) :
    ∃ (e0 : Option Addr) (q0 d0 : Nat) (a1 : Option Addr) (l1 c1 : Nat) (a2 : Option Addr) (l2 c2 : Nat) (a3 : Option Addr) (l3 c3 : Nat) (a4 : Option Addr) (l4 c4 : Nat) (a5 : Option Addr) (l5 c5 : Nat), HedL w b off (.int .i64 hc) (.slice e0 q0 d0) ∧ (RdI wp e0 q0 hv) ∧ CelL w b (off + 2) (.int .i64 p.k) (.int .i64 p.n) (.int .i64 p.m) (.int .i64 p.c) (.slice a1 l1 c1) (.int .i64 p.tk) (.int .i64 p.tn) (.slice a2 l2 c2) (.int .i64 p.uk) (.int .i64 p.un) (.slice a3 l3 c3) (.slice a4 l4 c4) (.slice a5 l5 c5) ∧ NdL wp p kids alts a1 l1 a2 l2 a3 l3 a4 l4 a5 l5 ∧ InGL w wp true rest b (off + 15) := by
  obtain ⟨h1, ⟨a1, l1, c1, a2, l2, c2, a3, l3, c3, a4, l4, c4, a5, l5, c5, h2, h3⟩, hr⟩ := h
  rcases h1 with h1 | ⟨-, e0, q0, d0, h1, g0⟩
  · exact absurd h1.1 (by decide)
  · exact ⟨e0, q0, d0, a1, l1, c1, a2, l2, c2, a3, l3, c3, a4, l4, c4, a5, l5, c5, h1, g0, h2, h3, hr⟩
theorem InGL.mkKid {w wp : World} {hc} {p : PL} {kids alts : GL} {b off : Nat} {a1 : Option Addr} {l1 c1 : Nat} {a2 : Option Addr} {l2 c2 : Nat} {a3 : Option Addr} {l3 c3 : Nat} {a4 : Option Addr} {l4 c4 : Nat} {a5 : Option Addr} {l5 c5 : Nat} (h2 : CelL w b off (.int .i64 p.k) (.int .i64 p.n) (.int .i64 p.m) (.int .i64 p.c) (.slice a1 l1 c1) (.int .i64 p.tk) (.int .i64 p.tn) (.slice a2 l2 c2) (.int .i64 p.uk) (.int .i64 p.un) (.slice a3 l3 c3) (.slice a4 l4 c4) (.slice a5 l5 c5)) (h3 : NdL wp p kids alts a1 l1 a2 l2 a3 l3 a4 l4 a5 l5) : InGL w wp false (.cons hc [] p kids alts .nil) b off :=
  ⟨.inl ⟨rfl, rfl⟩, ⟨a1, l1, c1, a2, l2, c2, a3, l3, c3, a4, l4, c4, a5, l5, c5, h2, h3⟩, trivial⟩
theorem InGL.mkAlt {w wp : World} {hc : Int} {hv : List Int} {p : PL} {kids alts : GL} {b off : Nat} {e0 : Option Addr} {q0 d0 : Nat} {a1 : Option Addr} {l1 c1 : Nat} {a2 : Option Addr} {l2 c2 : Nat} {a3 : Option Addr} {l3 c3 : Nat} {a4 : Option Addr} {l4 c4 : Nat} {a5 : Option Addr} {l5 c5 : Nat} (h1 : HedL w b off (.int .i64 hc) (.slice e0 q0 d0)) (g0 : RdI wp e0 q0 hv) (h2 : CelL w b (off + 2) (.int .i64 p.k) (.int .i64 p.n) (.int .i64 p.m) (.int .i64 p.c) (.slice a1 l1 c1) (.int .i64 p.tk) (.int .i64 p.tn) (.slice a2 l2 c2) (.int .i64 p.uk) (.int .i64 p.un) (.slice a3 l3 c3) (.slice a4 l4 c4) (.slice a5 l5 c5)) (h3 : NdL wp p kids alts a1 l1 a2 l2 a3 l3 a4 l4 a5 l5) : InGL w wp true (.cons hc hv p kids alts .nil) b off :=
  ⟨.inr ⟨rfl, e0, q0, d0, h1, g0⟩, ⟨a1, l1, c1, a2, l2, c2, a3, l3, c3, a4, l4, c4, a5, l5, c5, h2, h3⟩, trivial⟩
end Go.Proofs.Ytbeejgacdcncgaa.By
