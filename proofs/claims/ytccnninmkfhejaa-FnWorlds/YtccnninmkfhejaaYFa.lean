/-
  What a call does, and worlds of our own. No statement is proved here.
-/
import Derived.Test.YtccnninmkfhejaaYPt
import Derived.Test.YtccnninmkfhejaaYDeAlso
namespace Go.Proofs.Ytccnninmkfhejaa.By
open Go.RowKit
set_option linter.unusedVariables false
set_option linter.unusedSimpArgs false

/-- What a call of a kind does, and its event. -/
def callV (x : RWorld) (kind A C : Int) (lit : List Int) : RWorld × REvent :=
  if kind = 0 then (x, ⟨0, 0, 0, lit, 0⟩)
  else if kind = 1 then (tickV x, ⟨1, 0, 0, [], x.ticks⟩)
  else if kind = 2 then ((drawV x A).1, ⟨2, A, 0, [], (drawV x A).2⟩)
  else if kind = 3 then (x, ⟨3, A, 0, [], getV x.store A⟩)
  else ({ x with store := putV x.store A C }, ⟨4, A, C, [], 0⟩)
def evApp (x : RWorld) (ev : REvent) : RWorld := { x with trace := x.trace ++ [ev] }
def forOk (x : RWorld) (kind A C : Int) (lit : List Int) : Bool := decide (0 ≤ kind ∧ kind ≤ 4) && takV x A C lit.length
def forV (x : RWorld) (kind A C : Int) (lit : List Int) : RWorld × Int × Bool :=
  if forOk x kind A C lit = true then (evApp (callV x kind A C lit).1 (callV x kind A C lit).2, (callV x kind A C lit).2.res, true) else (⟨0, [], [], []⟩, 0, false)

/-- A world whose lists are our own. -/
def OwW (w : World) (B : Nat) (x : RWorld) (d1 : Option Addr) (l1 : Nat) (d2 : Option Addr) (l2 k2 : Nat) (d3 : Option Addr) (l3 k3 : Nat) (vs : List Value) (hi : Nat) : Prop :=
  OwI0 w B d1 l1 x.draws ∧ w.ownsRow B 66 2 (.slice d2 l2 k2) l2 (vE x.store) ∧ w.ownsRow B 36 5 (.slice d3 l3 k3) l3 vs ∧ EvO w hi x.trace vs B ∧ hi ≤ w.heap.size

theorem evo_low {u : World} {hi lo lo' : Nat} {xs : List REvent} {vs : List Value} (h : EvO u hi xs vs lo) (hl : lo' ≤ lo) : EvO u hi xs vs lo' := EvO.app (mi := lo) (xs := []) (vs := []) ⟨rfl, hl⟩ h

/-- A block of type t alone has turned, which none of these is. -/
theorem ow_kept {w u : World} {B p : Nat} {x : RWorld} {d1 : Option Addr} {l1 : Nat} {d2 : Option Addr} {l2 k2 : Nat} {d3 : Option Addr} {l3 k3 : Nat} {vs : List Value} {hi : Nat} {cur : Array Value} (h : OwW w B x d1 l1 d2 l2 k2 d3 l3 k3 vs hi) (hz : w.grownBy u (some p)) (hp : w.heap[p]? = some (.cells cur 27 (0, 0))) : OwW u B x d1 l1 d2 l2 k2 d3 l3 k3 vs hi := by
  obtain ⟨h1, h2, h3, h4, h5⟩ := h
  have hne : ∀ t', t' ≠ 27 → ∀ g, some p = some g → ∀ cur, w.heap[g]? ≠ some (.cells cur t' (0, 0)) := fun t' ht g e cur e2 => by
    obtain rfl := Option.some.inj e
    rw [hp] at e2
    cases e2
    exact ht rfl
  exact ⟨h1.kept hz (hne 3 (by decide)), h2.kept hz (row_ne h2 hp (by decide)), h3.kept hz (row_ne h3 hp (by decide)), h4.kept hz (hne 5 (by decide)), Nat.le_trans h5 hz.size⟩
theorem ow_low {w : World} {B B' : Nat} {x : RWorld} {d1 : Option Addr} {l1 : Nat} {d2 : Option Addr} {l2 k2 : Nat} {d3 : Option Addr} {l3 k3 : Nat} {vs : List Value} {hi : Nat} (h : OwW w B x d1 l1 d2 l2 k2 d3 l3 k3 vs hi) (hb : B' ≤ B) : OwW w B' x d1 l1 d2 l2 k2 d3 l3 k3 vs hi := by
  obtain ⟨⟨a1, a2, a3⟩, h2, h3, h4, h5⟩ := h
  refine ⟨⟨a1, a2, ?_⟩, Go.Joins.ownsRow_le h2 hb, Go.Joins.ownsRow_le h3 hb, evo_low h4 hb, h5⟩
  rcases a3 with h0 | ⟨g, o, cur, e, hg, hr⟩
  · exact .inl h0
  · exact .inr ⟨g, o, cur, e, Nat.le_trans hb hg, hr⟩
theorem ow_none {w u : World} {B : Nat} {x : RWorld} {d1 : Option Addr} {l1 : Nat} {d2 : Option Addr} {l2 k2 : Nat} {d3 : Option Addr} {l3 k3 : Nat} {vs : List Value} {hi : Nat} (h : OwW w B x d1 l1 d2 l2 k2 d3 l3 k3 vs hi) (hz : w.grownBy u none) : OwW u B x d1 l1 d2 l2 k2 d3 l3 k3 vs hi := by
  obtain ⟨h1, h2, h3, h4, h5⟩ := h
  exact ⟨h1.kept hz (fun g e => by cases e), h2.kept hz (Classical.em _), h3.kept hz (Classical.em _), h4.none hz, Nat.le_trans h5 hz.size⟩
/-- One event more behind the trace. -/
theorem mine_app {u z : World} {B q : Nat} {x : RWorld} {d1 : Option Addr} {l1 k1 : Nat} {d2 : Option Addr} {l2 k2 : Nat} {d3 : Option Addr} {l3 k3 : Nat} {vs : List Value} {hi : Nat} {ev : REvent} {a : Option Addr} {l c : Nat} {d' : Option Addr} {k' : Nat} (h : Mine u B q x d1 l1 k1 d2 l2 k2 d3 l3 k3 vs hi) (hz : u.grownBy z (Value.slice d3 l3 k3).ownBlock)
    (ho : z.ownsRow B 36 5 (.slice d' (l3 + 1) k') (l3 + 1) (vs ++ [.int .i64 ev.cap, .int .i64 ev.a, .int .i64 ev.b, .slice a l c, .int .i64 ev.res])) (ht : u.ownsRow hi 5 1 (.slice a l c) l (vB ev.lit)) (hb : Byt ev.lit) (hl : l ≤ 1048576) :
    z.heap[q]? = some (.cells #[.int .i64 x.ticks, .slice d1 l1 k1, .slice d2 l2 k2, .slice d3 l3 k3] 27 (0, 0)) ∧ OwW z B (evApp x ev) d1 l1 d2 l2 k2 d' (l3 + 1) k' (vs ++ [.int .i64 ev.cap, .int .i64 ev.a, .int .i64 ev.b, .slice a l c, .int .i64 ev.res]) z.heap.size := by
  obtain ⟨h0, h1, h2, h3, h4, h5⟩ := h
  have hne : ∀ t', t' ≠ 36 → ∀ g, (Value.slice d3 l3 k3).ownBlock = some g → ∀ cur, u.heap[g]? ≠ some (.cells cur t' (0, 0)) := fun t' ht g e cur e2 => by
    rcases h3.2 with ⟨e1, -⟩ | ⟨g', cap, cur', e1, -, hg, -⟩
    · rw [e1] at e; cases e
    · rw [e1] at e
      have : g' = g := by simpa [Value.ownBlock] using e
      subst this
      rw [hg] at e2
      cases e2
      exact ht rfl
  have nrow : ∀ {t' : TypeId} {s n : Nat} {v : Value} {zs : List Value} {B' : Nat}, u.ownsRow B' t' s v n zs → t' ≠ 36 → v.ownBlock = none ∨ v.ownBlock ≠ (Value.slice d3 l3 k3).ownBlock := fun {t' s n v zs B'} hh ht' => by
    rcases hh.2 with ⟨rfl, -⟩ | ⟨g, cap, cur, rfl, -, hg, -⟩
    · left; rfl
    · right; intro e; exact hne t' ht' g e.symm cur hg
  have ht2 := ht.kept hz (nrow ht (by decide))
  refine ⟨(hz.block q (lt_of_block h0) (fun e => hne 27 (by decide) q e.symm _ h0)).trans h0, h1.kept hz (hne 3 (by decide)), h2.kept hz (nrow h2 (by decide)), ho, EvO.app (mi := hi) (h4.kept hz (hne 5 (by decide))) ⟨a, l, c, z.heap.size, [], rfl, ⟨ht2, hb, hl⟩, fun g e => (ht2.lt g e).2, Nat.le_trans h5 hz.size, rfl, Nat.le_refl _⟩, Nat.le_refl _⟩

/-- What each deed does. -/
def DeedT (f : Nat) (x x' : RWorld) (ev : REvent) (A C : Int) (a : Option Addr) (l c : Nat) (lit : List Int) : Prop :=
  ∀ (B q : Nat) (d1 : Option Addr) (l1 k1 : Nat) (d2 : Option Addr) (l2 k2 : Nat) (d3 : Option Addr) (l3 k3 : Nat) (vs : List Value) (hi : Nat) (w : World), Mine w B q x d1 l1 k1 d2 l2 k2 d3 l3 k3 vs hi → B ≤ w.heap.size → B ≤ q → (l1 ≤ k1 ∧ k1 ≤ 9223372036854775807) → l2 ≤ 20 → RdB w a l lit →
    Calls Try.prog f #[.pointer (some ⟨q, 0, none⟩), .int .i64 A, .int .i64 C, .slice a l c] w fun e u => DeedR w B q x' ev e u

theorem wok_facts {x : RWorld} (h : wokV x = true) : (0 ≤ x.ticks ∧ x.ticks ≤ 2147483647) ∧ (∀ z ∈ x.draws, 0 ≤ z ∧ z ≤ 2147483647) ∧ okTo x.store x.store.length = true ∧ x.draws.length ≤ 200 ∧ x.store.length ≤ 20 ∧ x.trace.length ≤ 20000 := by
  simp only [wokV, Bool.and_eq_true, decide_eq_true_eq, numV, Bool.not_eq_true'] at h
  obtain ⟨⟨⟨⟨⟨h1, h2⟩, h3⟩, h4⟩, h5⟩, h6⟩ := h
  refine ⟨h4, fun z hz => ?_, h6, h1, h2, h3⟩
  rw [List.any_eq_false] at h5
  have := h5 z hz
  simp only [noNum, numV, Bool.not_eq_true', Bool.not_eq_false, Bool.and_eq_true, decide_eq_true_eq] at this
  exact this

theorem results_cell3Y {P : Program} {fn : Func} {p u v : Tmp} {ty : TypeId} (h : fn.results = #[.cell p ty, .tmp u, .tmp v]) (tmps : Array Value) (w : World) (g : Nat) (t : TypeId) (cs : Array Value) (fr : Nat × Nat) (d : TypeDesc)
    (hp : tmps.getD p undef = .pointer (some ⟨g, 0, none⟩)) (hg : w.heap[g]? = some (.cells cs t fr))
    (hu : P.underlying ty = some d) (hd : (match d with | .struct _ | .array _ _ => true | _ => false) = true) (hi : (P.info? ty).map (·.size) = some cs.size) :
    (results fn tmps).run P w = .ok (.tuple #[.agg cs, tmps.getD u undef, tmps.getD v undef]) w := by
  have hp' : tmps[p]?.getD undef = .pointer (some ⟨g, 0, none⟩) := by simpa using hp
  simp [results, h, hp', asAddr, run_loadVar_row w g t ty cs fr d hg hu hd hi]
theorem ow_zero {u : World} {B : Nat} (hB : B ≤ u.heap.size) : OwW u B ⟨0, [], [], []⟩ none 0 none 0 0 none 0 0 [] B :=
  ⟨⟨rfl, by omega, .inl rfl⟩, World.ownsRow_nil _ _ _ _, World.ownsRow_nil _ _ _ _, ⟨rfl, Nat.le_refl _⟩, hB⟩

/-- Each kind has its deed. -/
theorem deed_is (x : RWorld) (kind A C : Int) (a : Option Addr) (l c : Nat) (lit : List Int) (hk : 0 ≤ kind ∧ kind ≤ 4) :
    ∃ f, deedOf kind = some (.func (.func f) #[] #[]) ∧ (∀ args w, (callFunc f args).run Try.prog w = .ok (.enter f args) w) ∧ (wokV x = true → l ≤ 64 → DeedT f x (callV x kind A C lit).1 { (callV x kind A C lit).2 with cap := 0 } A C a l c lit) ∧ (callV x kind A C lit).2.cap = kind := by
  rcases (by omega : kind = 0 ∨ kind = 1 ∨ kind = 2 ∨ kind = 3 ∨ kind = 4) with rfl | rfl | rfl | rfl | rfl
  · exact ⟨71, rfl, enters_of Try.func71 (by kernel_rfl) rfl, fun hw hl B q d1 l1 k1 d2 l2 k2 d3 l3 k3 vs hi w h hB hq hkk h2 hr => printT x B q A C lit a l c d1 l1 k1 d2 l2 k2 d3 l3 k3 vs hi w h hB hr (by omega), rfl⟩
  · exact ⟨72, rfl, enters_of Try.func72 (by kernel_rfl) rfl, fun hw hl B q d1 l1 k1 d2 l2 k2 d3 l3 k3 vs hi w h hB hq hkk h2 hr => tickT x B q A C a l c d1 l1 k1 d2 l2 k2 d3 l3 k3 vs hi w h hB hq (wok_facts hw).1, rfl⟩
  · exact ⟨73, rfl, enters_of Try.func73 (by kernel_rfl) rfl, fun hw hl B q d1 l1 k1 d2 l2 k2 d3 l3 k3 vs hi w h hB hq hkk h2 hr => drawT x B q A C a l c d1 l1 k1 d2 l2 k2 d3 l3 k3 vs hi w h hB hq hkk (wok_facts hw).2.1, rfl⟩
  · exact ⟨74, rfl, enters_of Try.func74 (by kernel_rfl) rfl, fun hw hl B q d1 l1 k1 d2 l2 k2 d3 l3 k3 vs hi w h hB hq hkk h2 hr => getT x B q A C a l c d1 l1 k1 d2 l2 k2 d3 l3 k3 vs hi w h hB hq (by omega) (wok_facts hw).2.2.1, rfl⟩
  · exact ⟨75, rfl, enters_of Try.func75 (by kernel_rfl) rfl, fun hw hl B q d1 l1 k1 d2 l2 k2 d3 l3 k3 vs hi w h hB hq hkk h2 hr => putT x B q A C a l c d1 l1 k1 d2 l2 k2 d3 l3 k3 vs hi w h hB hq h2, rfl⟩
theorem callV_trace (x : RWorld) (kind A C : Int) (lit : List Int) : (callV x kind A C lit).1.trace = x.trace := by
  unfold callV
  split
  · rfl
  split
  · rfl
  split
  · unfold drawV; split
    · rfl
    · split <;> rfl
  split <;> rfl
theorem deed_none {kind : Int} (hk : ¬ (0 ≤ kind ∧ kind ≤ 4)) : deedOf kind = none := by
  simp only [deedOf, updT]
  rw [if_neg (by omega), if_neg (by omega), if_neg (by omega), if_neg (by omega), if_neg (by omega)]

end Go.Proofs.Ytccnninmkfhejaa.By
