/-
  impl.Foreign by its contract. No statement is proved here.
-/
import Derived.Test.YtkoojgbadpncdaaYPt
import Derived.Test.YtkoojgbadpncdaaYDeAlso
namespace Go.Proofs.Ytkoojgbadpncdaa.By
open Go.RowKit
set_option linter.unusedVariables false
set_option linter.unusedSimpArgs false

/-- What a call of a kind does, and its event. -/
def callV (x : RWorld) (kind A C : Int) (lit : List Int) : RWorld × REvent :=
  if kind = 0 then (x, ⟨0, 0, 0, lit, 0⟩)
  else if kind = 1 then (tickV x, ⟨1, 0, 0, [], x.ticks⟩)
  else if kind = 2 then ((drawV x A).1, ⟨2, A, 0, [], (drawV x A).2⟩)
  else if kind = 3 then (x, ⟨3, A, 0, [], getV x.store A⟩)
  else ({ x with store := putV x.store A C }, ⟨4, A, C, [], 0⟩)
def evApp (x : RWorld) (ev : REvent) : RWorld := { x with trace := x.trace ++ [ev] }
def forOk (x : RWorld) (kind A C : Int) (lit : List Int) : Bool := decide (0 ≤ kind ∧ kind ≤ 4) && takV x A C lit.length
def forV (x : RWorld) (kind A C : Int) (lit : List Int) : RWorld × Int × Bool :=
  if forOk x kind A C lit = true then (evApp (callV x kind A C lit).1 (callV x kind A C lit).2, (callV x kind A C lit).2.res, true) else (⟨0, [], [], []⟩, 0, false)

/-- A world whose lists are our own. -/
def OwW (w : World) (B : Nat) (x : RWorld) (d1 : Option Addr) (l1 : Nat) (d2 : Option Addr) (l2 k2 : Nat) (d3 : Option Addr) (l3 k3 : Nat) (vs : List Value) (hi : Nat) : Prop :=
  OwI0 w B d1 l1 x.draws ∧ w.ownsRow B 69 2 (.slice d2 l2 k2) l2 (vE x.store) ∧ w.ownsRow B 36 5 (.slice d3 l3 k3) l3 vs ∧ EvO w hi x.trace vs B ∧ hi ≤ w.heap.size

theorem evo_low {u : World} {hi lo lo' : Nat} {xs : List REvent} {vs : List Value} (h : EvO u hi xs vs lo) (hl : lo' ≤ lo) : EvO u hi xs vs lo' := EvO.app (mi := lo) (xs := []) (vs := []) ⟨rfl, hl⟩ h

/-- A block of type t alone has turned, which none of these is. -/
theorem ow_kept {w u : World} {B p : Nat} {x : RWorld} {d1 : Option Addr} {l1 : Nat} {d2 : Option Addr} {l2 k2 : Nat} {d3 : Option Addr} {l3 k3 : Nat} {vs : List Value} {hi : Nat} {cur : Array Value} (h : OwW w B x d1 l1 d2 l2 k2 d3 l3 k3 vs hi) (hz : w.grownBy u (some p)) (hp : w.heap[p]? = some (.cells cur 27 (0, 0))) : OwW u B x d1 l1 d2 l2 k2 d3 l3 k3 vs hi := by
  obtain ⟨h1, h2, h3, h4, h5⟩ := h
  have hne : ∀ t', t' ≠ 27 → ∀ g, some p = some g → ∀ cur, w.heap[g]? ≠ some (.cells cur t' (0, 0)) := fun t' ht g e cur e2 => by
    obtain rfl := Option.some.inj e
    rw [hp] at e2
    cases e2
    exact ht rfl
  exact ⟨h1.kept hz (hne 3 (by decide)), h2.kept hz (row_ne h2 hp (by decide)), h3.kept hz (row_ne h3 hp (by decide)), h4.kept hz (hne 5 (by decide)), Nat.le_trans h5 hz.size⟩
theorem ow_low {w : World} {B B' : Nat} {x : RWorld} {d1 : Option Addr} {l1 : Nat} {d2 : Option Addr} {l2 k2 : Nat} {d3 : Option Addr} {l3 k3 : Nat} {vs : List Value} {hi : Nat} (h : OwW w B x d1 l1 d2 l2 k2 d3 l3 k3 vs hi) (hb : B' ≤ B) : OwW w B' x d1 l1 d2 l2 k2 d3 l3 k3 vs hi := by
  obtain ⟨⟨a1, a2, a3⟩, h2, h3, h4, h5⟩ := h
  refine ⟨⟨a1, a2, ?_⟩, Go.Joins.ownsRow_le h2 hb, Go.Joins.ownsRow_le h3 hb, evo_low h4 hb, h5⟩
  rcases a3 with h0 | ⟨g, o, cur, e, hg, hr⟩
  · exact .inl h0
  · exact .inr ⟨g, o, cur, e, Nat.le_trans hb hg, hr⟩
theorem ow_none {w u : World} {B : Nat} {x : RWorld} {d1 : Option Addr} {l1 : Nat} {d2 : Option Addr} {l2 k2 : Nat} {d3 : Option Addr} {l3 k3 : Nat} {vs : List Value} {hi : Nat} (h : OwW w B x d1 l1 d2 l2 k2 d3 l3 k3 vs hi) (hz : w.grownBy u none) : OwW u B x d1 l1 d2 l2 k2 d3 l3 k3 vs hi := by
  obtain ⟨h1, h2, h3, h4, h5⟩ := h
  exact ⟨h1.kept hz (fun g e => by cases e), h2.kept hz (Classical.em _), h3.kept hz (Classical.em _), h4.none hz, Nat.le_trans h5 hz.size⟩
/-- One event more behind the trace. -/
theorem mine_app {u z : World} {B q : Nat} {x : RWorld} {d1 : Option Addr} {l1 k1 : Nat} {d2 : Option Addr} {l2 k2 : Nat} {d3 : Option Addr} {l3 k3 : Nat} {vs : List Value} {hi : Nat} {ev : REvent} {a : Option Addr} {l c : Nat} {d' : Option Addr} {k' : Nat} (h : Mine u B q x d1 l1 k1 d2 l2 k2 d3 l3 k3 vs hi) (hz : u.grownBy z (Value.slice d3 l3 k3).ownBlock)
    (ho : z.ownsRow B 36 5 (.slice d' (l3 + 1) k') (l3 + 1) (vs ++ [.int .i64 ev.cap, .int .i64 ev.a, .int .i64 ev.b, .slice a l c, .int .i64 ev.res])) (ht : u.ownsRow hi 5 1 (.slice a l c) l (vB ev.lit)) (hb : Byt ev.lit) (hl : l ≤ 1048576) :
    z.heap[q]? = some (.cells #[.int .i64 x.ticks, .slice d1 l1 k1, .slice d2 l2 k2, .slice d3 l3 k3] 27 (0, 0)) ∧ OwW z B (evApp x ev) d1 l1 d2 l2 k2 d' (l3 + 1) k' (vs ++ [.int .i64 ev.cap, .int .i64 ev.a, .int .i64 ev.b, .slice a l c, .int .i64 ev.res]) z.heap.size := by
  obtain ⟨h0, h1, h2, h3, h4, h5⟩ := h
  have hne : ∀ t', t' ≠ 36 → ∀ g, (Value.slice d3 l3 k3).ownBlock = some g → ∀ cur, u.heap[g]? ≠ some (.cells cur t' (0, 0)) := fun t' ht g e cur e2 => by
    rcases h3.2 with ⟨e1, -⟩ | ⟨g', cap, cur', e1, -, hg, -⟩
    · rw [e1] at e; cases e
    · rw [e1] at e
      have : g' = g := by simpa [Value.ownBlock] using e
      subst this
      rw [hg] at e2
      cases e2
      exact ht rfl
  have nrow : ∀ {t' : TypeId} {s n : Nat} {v : Value} {zs : List Value} {B' : Nat}, u.ownsRow B' t' s v n zs → t' ≠ 36 → v.ownBlock = none ∨ v.ownBlock ≠ (Value.slice d3 l3 k3).ownBlock := fun {t' s n v zs B'} hh ht' => by
    rcases hh.2 with ⟨rfl, -⟩ | ⟨g, cap, cur, rfl, -, hg, -⟩
    · left; rfl
    · right; intro e; exact hne t' ht' g e.symm cur hg
  have ht2 := ht.kept hz (nrow ht (by decide))
  refine ⟨(hz.block q (lt_of_block h0) (fun e => hne 27 (by decide) q e.symm _ h0)).trans h0, h1.kept hz (hne 3 (by decide)), h2.kept hz (nrow h2 (by decide)), ho, EvO.app (mi := hi) (h4.kept hz (hne 5 (by decide))) ⟨a, l, c, z.heap.size, [], rfl, ⟨ht2, hb, hl⟩, fun g e => (ht2.lt g e).2, Nat.le_trans h5 hz.size, rfl, Nat.le_refl _⟩, Nat.le_refl _⟩

/-- What each deed does. -/
def DeedT (f : Nat) (x x' : RWorld) (ev : REvent) (A C : Int) (a : Option Addr) (l c : Nat) (lit : List Int) : Prop :=
  ∀ (B q : Nat) (d1 : Option Addr) (l1 k1 : Nat) (d2 : Option Addr) (l2 k2 : Nat) (d3 : Option Addr) (l3 k3 : Nat) (vs : List Value) (hi : Nat) (w : World), Mine w B q x d1 l1 k1 d2 l2 k2 d3 l3 k3 vs hi → B ≤ w.heap.size → B ≤ q → (l1 ≤ k1 ∧ k1 ≤ 9223372036854775807) → l2 ≤ 20 → RdB w a l lit →
    Calls Try.prog f #[.pointer (some ⟨q, 0, none⟩), .int .i64 A, .int .i64 C, .slice a l c] w fun e u => DeedR w B q x' ev e u

theorem wok_facts {x : RWorld} (h : wokV x = true) : (0 ≤ x.ticks ∧ x.ticks ≤ 2147483647) ∧ (∀ z ∈ x.draws, 0 ≤ z ∧ z ≤ 2147483647) ∧ okTo x.store x.store.length = true ∧ x.draws.length ≤ 200 ∧ x.store.length ≤ 20 ∧ x.trace.length ≤ 20000 := by
  simp only [wokV, Bool.and_eq_true, decide_eq_true_eq, numV, Bool.not_eq_true'] at h
  obtain ⟨⟨⟨⟨⟨h1, h2⟩, h3⟩, h4⟩, h5⟩, h6⟩ := h
  refine ⟨h4, fun z hz => ?_, h6, h1, h2, h3⟩
  rw [List.any_eq_false] at h5
  have := h5 z hz
  simp only [noNum, numV, Bool.not_eq_true', Bool.not_eq_false, Bool.and_eq_true, decide_eq_true_eq] at this
  exact this

theorem results_cell3Y {P : Program} {fn : Func} {p u v : Tmp} {ty : TypeId} (h : fn.results = #[.cell p ty, .tmp u, .tmp v]) (tmps : Array Value) (w : World) (g : Nat) (t : TypeId) (cs : Array Value) (fr : Nat × Nat) (d : TypeDesc)
    (hp : tmps.getD p undef = .pointer (some ⟨g, 0, none⟩)) (hg : w.heap[g]? = some (.cells cs t fr))
    (hu : P.underlying ty = some d) (hd : (match d with | .struct _ | .array _ _ => true | _ => false) = true) (hi : (P.info? ty).map (·.size) = some cs.size) :
    (results fn tmps).run P w = .ok (.tuple #[.agg cs, tmps.getD u undef, tmps.getD v undef]) w := by
  have hp' : tmps[p]?.getD undef = .pointer (some ⟨g, 0, none⟩) := by simpa using hp
  simp [results, h, hp', asAddr, run_loadVar_row w g t ty cs fr d hg hu hd hi]
theorem ow_zero {u : World} {B : Nat} (hB : B ≤ u.heap.size) : OwW u B ⟨0, [], [], []⟩ none 0 none 0 0 none 0 0 [] B :=
  ⟨⟨rfl, by omega, .inl rfl⟩, World.ownsRow_nil _ _ _ _, World.ownsRow_nil _ _ _ _, ⟨rfl, Nat.le_refl _⟩, hB⟩

/-- Each kind has its deed. -/
theorem deed_is (x : RWorld) (kind A C : Int) (a : Option Addr) (l c : Nat) (lit : List Int) (hk : 0 ≤ kind ∧ kind ≤ 4) :
    ∃ f, deedOf kind = some (.func (.func f) #[] #[]) ∧ (∀ args w, (callFunc f args).run Try.prog w = .ok (.enter f args) w) ∧ (wokV x = true → l ≤ 64 → DeedT f x (callV x kind A C lit).1 { (callV x kind A C lit).2 with cap := 0 } A C a l c lit) ∧ (callV x kind A C lit).2.cap = kind := by
  rcases (by omega : kind = 0 ∨ kind = 1 ∨ kind = 2 ∨ kind = 3 ∨ kind = 4) with rfl | rfl | rfl | rfl | rfl
  · exact ⟨53, rfl, enters_of Try.func53 (by kernel_rfl) rfl, fun hw hl B q d1 l1 k1 d2 l2 k2 d3 l3 k3 vs hi w h hB hq hkk h2 hr => printT x B q A C lit a l c d1 l1 k1 d2 l2 k2 d3 l3 k3 vs hi w h hB hr (by omega), rfl⟩
  · exact ⟨54, rfl, enters_of Try.func54 (by kernel_rfl) rfl, fun hw hl B q d1 l1 k1 d2 l2 k2 d3 l3 k3 vs hi w h hB hq hkk h2 hr => tickT x B q A C a l c d1 l1 k1 d2 l2 k2 d3 l3 k3 vs hi w h hB hq (wok_facts hw).1, rfl⟩
  · exact ⟨55, rfl, enters_of Try.func55 (by kernel_rfl) rfl, fun hw hl B q d1 l1 k1 d2 l2 k2 d3 l3 k3 vs hi w h hB hq hkk h2 hr => drawT x B q A C a l c d1 l1 k1 d2 l2 k2 d3 l3 k3 vs hi w h hB hq hkk (wok_facts hw).2.1, rfl⟩
  · exact ⟨56, rfl, enters_of Try.func56 (by kernel_rfl) rfl, fun hw hl B q d1 l1 k1 d2 l2 k2 d3 l3 k3 vs hi w h hB hq hkk h2 hr => getT x B q A C a l c d1 l1 k1 d2 l2 k2 d3 l3 k3 vs hi w h hB hq (by omega) (wok_facts hw).2.2.1, rfl⟩
  · exact ⟨57, rfl, enters_of Try.func57 (by kernel_rfl) rfl, fun hw hl B q d1 l1 k1 d2 l2 k2 d3 l3 k3 vs hi w h hB hq hkk h2 hr => putT x B q A C a l c d1 l1 k1 d2 l2 k2 d3 l3 k3 vs hi w h hB hq h2, rfl⟩
theorem callV_trace (x : RWorld) (kind A C : Int) (lit : List Int) : (callV x kind A C lit).1.trace = x.trace := by
  unfold callV
  split
  · rfl
  split
  · rfl
  split
  · unfold drawV; split
    · rfl
    · split <;> rfl
  split <;> rfl
theorem deed_none {kind : Int} (hk : ¬ (0 ≤ kind ∧ kind ≤ 4)) : deedOf kind = none := by
  simp only [deedOf, updT]
  rw [if_neg (by omega), if_neg (by omega), if_neg (by omega), if_neg (by omega), if_neg (by omega)]


set_option maxRecDepth 8000 in
set_option maxHeartbeats 8000000 in
theorem implForeignT (x : RWorld) (kind A C : Int) (lit : List Int) (a1 : Option Addr) (l1 c1 : Nat) (a2 : Option Addr) (l2 c2 : Nat) (a3 : Option Addr) (l3 c3 : Nat) (a : Option Addr) (l c : Nat) (w : World) (h : RdWorld w x a1 l1 a2 l2 a3 l3) (hl : RdB w a l lit) (hk : I64x kind) (hs : szWorld x ≤ 1048576) :
    Calls Try.prog 6 #[.agg #[.int .i64 x.ticks, .slice a1 l1 c1, .slice a2 l2 c2, .slice a3 l3 c3], .int .i64 kind, .int .i64 A, .int .i64 C, .slice a l c] w fun e u => ∃ d1 m1 k1 d2 m2 k2 d3 m3 k3 vs hi, e = .returned (.tuple #[.agg #[.int .i64 (forV x kind A C lit).1.ticks, .slice d1 m1 k1, .slice d2 m2 k2, .slice d3 m3 k3], .int .i64 (forV x kind A C lit).2.1, .bool (forV x kind A C lit).2.2]) ∧ OwW u w.heap.size (forV x kind A C lit).1 d1 m1 d2 m2 k2 d3 m3 k3 vs hi ∧ w.grownBy u none := by
  obtain ⟨r0, r1, rsz⟩ := alloc2_blocks w (.cells #[.int .i64 x.ticks, .slice a1 l1 c1, .slice a2 l2 c2, .slice a3 l3 c3] 27) (.cells #[.int .i64 0, .slice none 0 0, .slice none 0 0, .slice none 0 0] 27)
  have g0 := grown_alloc (grown_alloc (World.grownBy.refl w none) (.cells #[.int .i64 x.ticks, .slice a1 l1 c1, .slice a2 l2 c2, .slice a3 l3 c3] 27)) (.cells #[.int .i64 0, .slice none 0 0, .slice none 0 0, .slice none 0 0] 27)
  have HR : Hid (RdWorld w x a1 l1 a2 l2 a3 l3 ∧ RdB w a l lit ∧ szWorld x ≤ 1048576) := ⟨h, hl, hs⟩
  have hnl := hl.2.2
  have hll := hl.1.1
  have L0 : Hid _ := And.intro g0 (And.intro r0 (And.intro r1 rsz))
  have CD : Hid _ := deedsT ((w.alloc (.cells #[.int .i64 x.ticks, .slice a1 l1 c1, .slice a2 l2 c2, .slice a3 l3 c3] 27)).alloc (.cells #[.int .i64 0, .slice none 0 0, .slice none 0 0, .slice none 0 0] 27))
  clear h hl hs g0 r0 r1 rsz
  go_enter Try.func6, Try.ntmps6
  go_wp2_with fail
  refine Calls.mono CD.out ?_
  rintro e u ⟨⟨m, n, rfl, hm⟩, hg⟩
  obtain ⟨g0, r0, r1, rsz⟩ := L0.out
  replace r0 := (hg.block _ (lt_of_block r0) (by simp)).trans r0
  replace r1 := (hg.block _ (lt_of_block r1) (by simp)).trans r1
  have gu := grown_trans g0 hg
  have hlook := hm.look_ok hk
  have L1 : Hid _ := And.intro gu (And.intro r0 (And.intro r1 rsz))
  obtain ⟨⟨z0, z1, z2, z3⟩, hfz⟩ := blkWorld r1
  have fz0 := hfz 0
  have fz1 := hfz 1
  have fz2 := hfz 2
  have fz3 := hfz 3
  clear L0 CD hm hg g0 r0 r1 rsz gu hfz
  by_cases hk4 : 0 ≤ kind ∧ kind ≤ 4
  rotate_left
  · have EV : Hid (forV x kind A C lit = (⟨0, [], [], []⟩, 0, false)) := by
      show _ = _
      have : forOk x kind A C lit = false := by simp only [forOk, decide_eq_false hk4, Bool.false_and]
      simp [forV, this]
    rw [deed_none hk4] at hlook
    simp only [Option.getD_none, Option.isSome_none] at hlook
    obtain ⟨gu, r0, r1, rsz⟩ := L1.out
    obtain ⟨mf, kf⟩ := fillWorld (.int .i64 0) (.slice none 0 0) (.slice none 0 0) (.slice none 0 0) r1
    have FQ : Hid _ := And.intro mf (grown_into gu kf (by omega))
    clear gu r0 r1 rsz mf kf L1
    simp only []
    go_wp2
    (try simp only [Exit.inBlock, Exit.then])
    refine bodyPost_ret (results_cell3Y (P := Try.prog) Try.results6 _ _ _ _ _ _ _ rfl FQ.out.1 Try.underlying27 rfl (by kernel_rfl)) rfl ?_
    rw [EV.out]
    exact ⟨none, 0, 0, none, 0, 0, none, 0, 0, [], w.heap.size, rfl, ow_zero FQ.out.2.size, FQ.out.2⟩
  · obtain ⟨f, hf, hent, hdeed, hcap⟩ := deed_is x kind A C a l c lit hk4
    rw [hf] at hlook
    simp only [Option.getD_some, Option.isSome_some] at hlook
    obtain ⟨gu, r0, r1, rsz⟩ := L1.out
    have CT : Hid _ := takesT x w.heap.size A C a l c a1 l1 c1 a2 l2 c2 a3 l3 c3 u hnl (HR.out.1.none gu) (blkWorld r0).1
    have HD : Hid _ := And.intro hdeed (And.intro hcap hf)
    clear gu r0 r1 rsz hf hdeed hcap
    simp only []
    go_wp2_with fail
    refine Calls.mono CT.out ?_
    rintro e v ⟨rfl, hg⟩
    obtain ⟨gu, r0, r1, rsz⟩ := L1.out
    replace r0 := (hg.block _ (lt_of_block r0) (by simp)).trans r0
    replace r1 := (hg.block _ (lt_of_block r1) (by simp)).trans r1
    replace gu := grown_trans gu hg
    clear L1 hg CT z0 z1 z2 z3 fz0 fz1 fz2 fz3 hlook
    obtain ⟨⟨z0, z1, z2, z3⟩, hfz⟩ := blkWorld r1
    have fz0 := hfz 0
    have fz1 := hfz 1
    have fz2 := hfz 2
    have fz3 := hfz 3
    cases ht : takV x A C l with
    | false =>
      have EV : Hid (forV x kind A C lit = (⟨0, [], [], []⟩, 0, false)) := by
        show _ = _
        have : forOk x kind A C lit = false := by simp only [forOk, hll, ht, Bool.and_false]
        simp [forV, this]
      obtain ⟨mf, kf⟩ := fillWorld (.int .i64 0) (.slice none 0 0) (.slice none 0 0) (.slice none 0 0) r1
      have FQ : Hid _ := And.intro mf (grown_into gu kf (by omega))
      clear gu r0 r1 rsz mf kf hfz
      simp only []
      go_wp2
      (try simp only [Exit.inBlock, Exit.then])
      refine bodyPost_ret (results_cell3Y (P := Try.prog) Try.results6 _ _ _ _ _ _ _ rfl FQ.out.1 Try.underlying27 rfl (by kernel_rfl)) rfl ?_
      rw [EV.out]
      exact ⟨none, 0, 0, none, 0, 0, none, 0, 0, [], w.heap.size, rfl, ow_zero FQ.out.2.size, FQ.out.2⟩
    | true =>
      have EV : Hid (forV x kind A C lit = (evApp (callV x kind A C lit).1 (callV x kind A C lit).2, (callV x kind A C lit).2.res, true) ∧ wokV x = true ∧ l ≤ 64) := by
        have : forOk x kind A C lit = true := by simp only [forOk, hll, ht, decide_eq_true hk4]; rfl
        refine ⟨by simp [forV, this], ?_⟩
        simp only [takV, Bool.and_eq_true, decide_eq_true_eq] at ht
        exact ⟨ht.1.1.1.1, ht.1.2⟩
      have CO : Hid _ := ownT x w.heap.size a1 l1 c1 a2 l2 c2 a3 l3 c3 v (HR.out.1.none gu) (blkWorld r0).1 HR.out.2.2
      have L2 : Hid _ := And.intro gu (And.intro r1 rsz)
      clear gu r0 r1 rsz hfz z0 z1 z2 z3 fz0 fz1 fz2 fz3
      simp only []
      go_wp2_with fail
      refine Calls.mono CO.out ?_
      rintro e z ⟨d1, k1, d2, k2, d3, k3, vs, hi, rfl, hg, ho1, ho2, ho3, hev, hhi⟩
      obtain ⟨gu, r1, rsz⟩ := L2.out
      replace r1 := (hg.block _ (lt_of_block r1) (by simp)).trans r1
      replace gu := grown_trans gu hg
      have hvB : w.heap.size + 2 ≤ v.heap.size := by have := lt_of_block L2.out.2.1; omega
      have ga := World.grownBy_alloc z (.cells #[.int .i64 x.ticks, .slice d1 l1 k1, .slice d2 l2 k2, .slice d3 l3 k3] 27) none
      have bq := heap_alloc_new z (.cells #[.int .i64 x.ticks, .slice d1 l1 k1, .slice d2 l2 k2, .slice d3 l3 k3] 27)
      have hk1 : l1 ≤ k1 ∧ k1 ≤ 9223372036854775807 := by
        rcases ho1.2 with ⟨e, h0⟩ | ⟨g, cap, cur, e, hb, hh, hnc, hm, hs, ht⟩
        · cases e; omega
        · cases e; unfold maxLen at hm; omega
      have hel := HR.out.1
      have b1 : l1 ≤ 9223372036854775807 := by omega
      have hf20 := (wok_facts EV.out.2.1).2.2.2.2.1
      have hl2 : l2 ≤ 20 := by have := hel.2.1.1; omega
      have MM : Mine (z.alloc (.cells #[.int .i64 x.ticks, .slice d1 l1 k1, .slice d2 l2 k2, .slice d3 l3 k3] 27)) v.heap.size z.heap.size x d1 l1 k1 d2 l2 k2 d3 l3 k3 vs hi :=
        ⟨bq, OwI0.of (ho1.kept ga (Classical.em _)) b1, ho2.kept ga (Classical.em _), ho3.kept ga (Classical.em _), hev.none ga, Nat.le_trans hhi ga.size⟩
      have gz := grown_trans gu ga
      have CDd : Hid _ := HD.out.1 EV.out.2.1 EV.out.2.2 v.heap.size z.heap.size d1 l1 k1 d2 l2 k2 d3 l3 k3 vs hi _ MM (Nat.le_trans hg.size ga.size) hg.size hk1 hl2 (HR.out.2.1.none gz)
      have hzv := hg.size
      have L3 : Hid _ := And.intro gz (And.intro ((ga.block _ (lt_of_block r1) (by simp)).trans r1) rsz)
      clear L2 gu r1 rsz hg ho1 ho2 ho3 hev hhi ga bq MM gz hel hf20 CO
      simp only []
      go_wp2_with fail
      refine Calls.mono CDd.out ?_
      rintro e y ⟨ea, el, ec, e1, m1, j1, e2, m2, j2, e3, m3, j3, us, hi', rfl, M, ⟨hot, hby, hel⟩, hbel⟩
      have hcap := HD.out.2.1
      have hXt : (callV x kind A C lit).1.trace.length ≤ 20000 := by rw [callV_trace]; exact (wok_facts EV.out.2.1).2.2.2.2.2
      have EV2 : Hid _ := EV.out.1
      clear HD EV CDd
      generalize (callV x kind A C lit).1 = X at *
      obtain ⟨E, hE⟩ : ∃ E, E = (callV x kind A C lit).2 := ⟨_, rfl⟩
      rw [← hE] at hcap hot hby EV2 ⊢
      clear hE
      obtain ⟨ecap, eA, eB, elit, eres⟩ := E
      obtain rfl : ecap = kind := hcap
      simp only [] at hot hby EV2 ⊢
      obtain ⟨gz, r1, rsz⟩ := L3.out
      replace r1 := (hbel.block (w.heap.size + 1) (by omega)).trans r1
      have gy : w.grownBy y none := ⟨hbel.os.trans gz.os, hbel.tape.trans gz.tape, hbel.output.trans gz.output, Nat.le_trans gz.size hbel.size, fun i hi _ => (hbel.block i (by omega)).trans (gz.block i hi (by simp))⟩
      have hvy : v.heap.size ≤ y.heap.size := by have := hbel.size; have := World.size_alloc z (.cells #[.int .i64 x.ticks, .slice d1 l1 k1, .slice d2 l2 k2, .slice d3 l3 k3] 27); omega
      have nr : w.heap.size + 1 ≠ z.heap.size := by omega
      obtain ⟨i0, hi0, hz0, hz1, hz2⟩ := info_parts infoYv
      obtain ⟨⟨z0, z1, z2, z3⟩, hfz⟩ := blkWorld M.1
      have fz3 := hfz 3
      have HM : Hid (Mine y v.heap.size z.heap.size X e1 m1 j1 e2 m2 j2 e3 m3 j3 us hi' ∧ (y.ownsRow hi' 5 1 (.slice ea el ec) el (vB elit) ∧ Byt elit) ∧ w.grownBy y none ∧ y.heap[w.heap.size + 1]? = some (.cells #[.int .i64 0, .slice none 0 0, .slice none 0 0, .slice none 0 0] 27 (0, 0)) ∧ v.heap.size ≤ y.heap.size) := ⟨M, ⟨hot, hby⟩, gy, r1, hvy⟩
      have hq := lt_of_block M.1
      have nq : z.heap.size ≠ y.heap.size := by omega
      clear M hot hby hbel gz r1 rsz gy hfz L3 hvy
      have bv := heap_alloc_new y (.cells #[.int .i64 ecap, .int .i64 eA, .int .i64 eB, .slice ea el ec, .int .i64 eres] 36)
      have gv := World.grownBy_alloc y (.cells #[.int .i64 ecap, .int .i64 eA, .int .i64 eB, .slice ea el ec, .int .i64 eres] 36) none
      have bs := heap_alloc_new (y.alloc (.cells #[.int .i64 ecap, .int .i64 eA, .int .i64 eB, .slice ea el ec, .int .i64 eres] 36)) (.cells #[.int .i64 ecap, .int .i64 eA, .int .i64 eB, .slice ea el ec, .int .i64 eres] 36)
      have gs := World.grownBy_alloc (y.alloc (.cells #[.int .i64 ecap, .int .i64 eA, .int .i64 eB, .slice ea el ec, .int .i64 eres] 36)) (.cells #[.int .i64 ecap, .int .i64 eA, .int .i64 eB, .slice ea el ec, .int .i64 eres] 36) none
      rw [World.size_alloc] at bs
      have gvs := grown_trans gv gs
      have HO : Hid _ := HM.out.1.2.2.2.1.kept gvs (Classical.em _)
      have HC : Hid (∀ j w, ([.int .i64 ecap, .int .i64 eA, .int .i64 eB, .slice ea el ec, .int .i64 eres] : List Value)[j]? = some w → ((y.alloc (.cells #[.int .i64 ecap, .int .i64 eA, .int .i64 eB, .slice ea el ec, .int .i64 eres] 36)).alloc (.cells #[.int .i64 ecap, .int .i64 eA, .int .i64 eB, .slice ea el ec, .int .i64 eres] 36)).cell? ((⟨y.heap.size + 1, 0, none⟩ : Addr).add j) = some w) := fun j w hj => by
        rw [Go.WideShapes.add_plain, Nat.zero_add, cell_of_row _ (y.heap.size + 1) j _ 36 (0, 0) bs]
        match j, hj with
        | 0, hj => exact hj
        | 1, hj => exact hj
        | 2, hj => exact hj
        | 3, hj => exact hj
        | 4, hj => exact hj
        | j + 5, hj => simp at hj
      have H1 : Hid (∀ w ∈ ([.int .i64 ecap, .int .i64 eA, .int .i64 eB, .slice ea el ec, .int .i64 eres] : List Value), w.oneCell' = true) := fun w hw => by
        simp only [List.mem_cons, List.not_mem_nil, or_false] at hw
        rcases hw with rfl | rfl | rfl | rfl | rfl <;> rfl
      have HV : Hid _ := And.intro gvs ((gs.block _ (lt_of_block bv) (by simp)).trans bv)
      have hm3 : m3 ≤ 1048576 := by
        have h1 := HM.out.1.2.2.2.1.1
        rw [HM.out.1.2.2.2.2.1.len] at h1
        omega
      have hBB : v.heap.size ≤ ((y.alloc (.cells #[.int .i64 ecap, .int .i64 eA, .int .i64 eB, .slice ea el ec, .int .i64 eres] 36)).alloc (.cells #[.int .i64 ecap, .int .i64 eA, .int .i64 eB, .slice ea el ec, .int .i64 eres] 36)).heap.size := Nat.le_trans HM.out.2.2.2.2 gvs.size
      clear bv gv bs gs gvs
      go_wp2_with (at_builtin; go_must (refine wpList_append_own _ rfl (.tmp 42) (.tmp 44) 25 rfl v.heap.size 36 i0 _ 5 56 Try.underlying25 hi0 hz0 hz1 hz2 rfl (by decide) (.slice e3 m3 j3) m3 us rfl HO.out ⟨y.heap.size + 1, 0, none⟩ 1 1 _ rfl rfl HC.out H1.out (by simp [maxLen]; omega) (by omega) hBB ?_))
      intro vv w4 ho4 hg4 _
      obtain ⟨d4, k4, rfl⟩ := row_slice ho4
      have M2 := HM.out.1.none HV.out.1
      have ap := mine_app (ev := ⟨ecap, eA, eB, elit, eres⟩) M2 hg4 ho4 (HM.out.2.1.1.kept HV.out.1 (Classical.em _)) HM.out.2.1.2 hel
      have old : (Value.slice e3 m3 j3).ownBlock = none ∨ (Value.slice e3 m3 j3).ownBlock ≠ some y.heap.size := row_old HM.out.1.2.2.2.1
      have ev4 := (hg4.block y.heap.size (lt_of_block HV.out.2) (by
        rcases old with e | e
        · rw [e]; simp
        · exact fun e2 => e e2.symm)).trans HV.out.2
      have r4 : w4.heap[w.heap.size + 1]? = some (.cells #[.int .i64 0, .slice none 0 0, .slice none 0 0, .slice none 0 0] 27 (0, 0)) := by
        have r2 := (HV.out.1.block _ (lt_of_block HM.out.2.2.2.1) (by simp)).trans HM.out.2.2.2.1
        refine (hg4.block _ (lt_of_block r2) (fun e => ?_)).trans r2
        rcases HO.out.2 with ⟨e1, -⟩ | ⟨g', cap, cur', e1, -, hg, -⟩
        · rw [e1] at e; cases e
        · rw [e1] at e
          have : g' = w.heap.size + 1 := by have := Option.some.inj e; simpa using this.symm
          subst this
          rw [r2] at hg; cases hg
      have g4 : w.grownBy w4 none := by
        have g2 := grown_trans HM.out.2.2.1 HV.out.1
        refine ⟨hg4.os.trans g2.os, hg4.tape.trans g2.tape, hg4.output.trans g2.output, Nat.le_trans g2.size hg4.size, fun i hi _ => (hg4.block i (Nat.lt_of_lt_of_le hi g2.size) (fun e => ?_)).trans (g2.block i hi (by simp))⟩
        have := (World.ownsRow.lt HO.out i e.symm).1
        omega
      have kq := grown_setCell w4 z.heap.size 3 (.slice d4 (m3 + 1) k4)
      have q5 := heap_setCell_same _ z.heap.size 3 _ _ (.slice d4 (m3 + 1) k4) ap.1
      have ow5 := ow_kept ap.2 kq ap.1
      have r5 := (kq.block _ (lt_of_block r4) (by simp; omega)).trans r4
      have ev5 := (kq.block _ (lt_of_block ev4) (by simp; omega)).trans ev4
      have F5 : Hid _ := And.intro q5 (And.intro ow5 (And.intro r5 (And.intro ev5 (grown_into g4 kq (by omega)))))
      obtain ⟨⟨z0, z1, z2, z3⟩, hfz⟩ := blkWorld ap.1
      have fz3 := hfz 3
      clear ho4 hg4 M2 ap old ev4 r4 g4 kq q5 ow5 r5 ev5 hfz HV HO HC H1 HM
      have gd := grown_drew (World.grownBy.refl (w4.setCell ⟨z.heap.size, 3, none⟩ (.slice d4 (m3 + 1) k4)) none)
      have qb := blkWorld F5.out.1
      have SS : Hid (((w4.setCell ⟨z.heap.size, 3, none⟩ (.slice d4 (m3 + 1) k4)).drew.cell? ⟨z.heap.size, 0, none⟩ = some (.int .i64 X.ticks) ∧ (w4.setCell ⟨z.heap.size, 3, none⟩ (.slice d4 (m3 + 1) k4)).drew.cell? ⟨z.heap.size, 1, none⟩ = some (.slice e1 m1 j1) ∧ (w4.setCell ⟨z.heap.size, 3, none⟩ (.slice d4 (m3 + 1) k4)).drew.cell? ⟨z.heap.size, 2, none⟩ = some (.slice e2 m2 j2) ∧ (w4.setCell ⟨z.heap.size, 3, none⟩ (.slice d4 (m3 + 1) k4)).drew.cell? ⟨z.heap.size, 3, none⟩ = some (.slice d4 (m3 + 1) k4)) ∧ (w4.setCell ⟨z.heap.size, 3, none⟩ (.slice d4 (m3 + 1) k4)).drew.cell? ⟨y.heap.size, 4, none⟩ = some (.int .i64 eres)) :=
        ⟨⟨gd.cell qb.1.1 (by simp), gd.cell qb.1.2.1 (by simp), gd.cell qb.1.2.2.1 (by simp), gd.cell qb.1.2.2.2 (by simp)⟩, gd.cell (blkEvent F5.out.2.2.2.1).1.2.2.2.2 (by simp)⟩
      clear gd qb
      go_wp2
      clear z0 z1 z2 z3 fz3
      refine wp_region_held_drew (S := (fun u => (u.cell? ⟨z.heap.size, 0, none⟩ = some (.int .i64 X.ticks) ∧ u.cell? ⟨z.heap.size, 1, none⟩ = some (.slice e1 m1 j1) ∧ u.cell? ⟨z.heap.size, 2, none⟩ = some (.slice e2 m2 j2) ∧ u.cell? ⟨z.heap.size, 3, none⟩ = some (.slice d4 (m3 + 1) k4)) ∧ u.cell? ⟨y.heap.size, 4, none⟩ = some (.int .i64 eres))) (by kernel_rfl) SS.out (fun hH => ?_)
      have F6 : Hid ((w4.setCell ⟨z.heap.size, 3, none⟩ (.slice d4 (m3 + 1) k4)).drew.heap[w.heap.size + 1]? = some (.cells #[.int .i64 0, .slice none 0 0, .slice none 0 0, .slice none 0 0] 27 (0, 0)) ∧ w.grownBy (w4.setCell ⟨z.heap.size, 3, none⟩ (.slice d4 (m3 + 1) k4)).drew none ∧ OwW (w4.setCell ⟨z.heap.size, 3, none⟩ (.slice d4 (m3 + 1) k4)).drew v.heap.size (evApp X ⟨ecap, eA, eB, elit, eres⟩) e1 m1 e2 m2 j2 d4 (m3 + 1) k4 (us ++ [.int .i64 ecap, .int .i64 eA, .int .i64 eB, .slice ea el ec, .int .i64 eres]) w4.heap.size) := ⟨F5.out.2.2.1, grown_drew F5.out.2.2.2.2, ow_none F5.out.2.1 (grown_drew (World.grownBy.refl _ none))⟩
      clear F5 SS
      generalize (w4.setCell ⟨z.heap.size, 3, none⟩ (.slice d4 (m3 + 1) k4)).drew = w5 at *
      obtain ⟨mf, kf⟩ := fillWorld (.int .i64 X.ticks) (.slice e1 m1 j1) (.slice e2 m2 j2) (.slice d4 (m3 + 1) k4) F6.out.1
      have F7 : Hid _ := And.intro mf (And.intro (grown_into F6.out.2.1 kf (by omega)) (And.intro (ow_low (ow_kept F6.out.2.2 kf F6.out.1) (B' := w.heap.size) (by omega)) kf))
      obtain ⟨⟨x0, x1, x2, x3⟩, hfx⟩ := blkWorld F6.out.1
      have fx0 := hfx 0
      have fx1 := hfx 1
      have fx2 := hfx 2
      have fx3 := hfx 3
      clear mf kf hfx
      simp only [List.size_toArray, List.length_cons, List.length_nil, Nat.reduceAdd, Array.replicate, List.replicate]
      refine wpAnyH_take (i := 0) (v := ?_) rfl (by kernel_rfl) (by kernel_rfl) (by kernel_rfl) (fun _ _ _ h => h) (Or.inl ⟨by rfl, ?_⟩) hH ?_
      rotate_left
      · (intro v hS; obtain ⟨⟨s0, s1, s2, s3⟩, s4⟩ := hS; go_simp; try with_reducible rfl)
      simp only [Act.put, List.setIfInBounds_toArray, List.set_cons_zero, List.set_cons_succ, List.getElem_toArray, List.getElem_cons_succ, List.getElem_cons_zero]
      refine wpAnyH_take (i := 1) (v := ?_) rfl (by kernel_rfl) (by kernel_rfl) (by kernel_rfl) (fun _ _ _ h => h) (Or.inl ⟨by rfl, ?_⟩) hH ?_
      rotate_left
      · (intro v hS; obtain ⟨⟨s0, s1, s2, s3⟩, s4⟩ := hS; go_simp; try with_reducible rfl)
      simp only [Act.put, List.setIfInBounds_toArray, List.set_cons_zero, List.set_cons_succ, List.getElem_toArray, List.getElem_cons_succ, List.getElem_cons_zero]
      refine wpAnyH_take (i := 2) (v := ?_) rfl (by kernel_rfl) (by kernel_rfl) (by kernel_rfl) (fun _ _ _ h => h) (Or.inl ⟨by rfl, ?_⟩) hH ?_
      rotate_left
      · (intro v hS; obtain ⟨⟨s0, s1, s2, s3⟩, s4⟩ := hS; go_simp; try with_reducible rfl)
      simp only [Act.put, List.setIfInBounds_toArray, List.set_cons_zero, List.set_cons_succ, List.getElem_toArray, List.getElem_cons_succ, List.getElem_cons_zero]
      refine wpAnyH_ready (rs := [3]) (by kernel_rfl) (by simp) ?_
      refine AllReadyH.cons rfl (fun K hK => ?_) AllReadyH.nil
      go_simp
      refine hK.out _ _ ⟨⟨F7.out.2.2.2.cell hH.1.1 (by simp; omega), F7.out.2.2.2.cell hH.1.2.1 (by simp; omega), F7.out.2.2.2.cell hH.1.2.2.1 (by simp; omega), F7.out.2.2.2.cell hH.1.2.2.2 (by simp; omega)⟩, F7.out.2.2.2.cell hH.2 (by simp; omega)⟩ (fun hH2 => ?_)
      clear hK K hH
      have hH := hH2
      clear hH2
      simp only [Act.put, List.setIfInBounds_toArray, List.set_cons_zero, List.set_cons_succ, List.getElem_toArray, List.getElem_cons_succ, List.getElem_cons_zero]
      refine wpAnyH_take (i := 4) (v := ?_) rfl (by kernel_rfl) (by kernel_rfl) (by kernel_rfl) (fun _ _ _ h => h) (Or.inl ⟨by rfl, ?_⟩) hH ?_
      rotate_left
      · (intro v hS; go_simp; try with_reducible rfl)
      simp only [Act.put, List.setIfInBounds_toArray, List.set_cons_zero, List.set_cons_succ, List.getElem_toArray, List.getElem_cons_succ, List.getElem_cons_zero]
      refine wpAnyH_take (i := 5) (v := ?_) rfl (by kernel_rfl) (by kernel_rfl) (by kernel_rfl) (fun _ _ _ h => h) (Or.inl ⟨by rfl, ?_⟩) hH ?_
      rotate_left
      · (intro v hS; go_simp; try with_reducible rfl)
      simp only [Act.put, List.setIfInBounds_toArray, List.set_cons_zero, List.set_cons_succ, List.getElem_toArray, List.getElem_cons_succ, List.getElem_cons_zero]
      refine wpAnyH_done (by kernel_rfl) ?_ _
      clear hH x0 x1 x2 x3 fx0 fx1 fx2 fx3
      go_wp2
      (try simp only [Exit.inBlock, Exit.then])
      refine bodyPost_ret (results_cell3Y (P := Try.prog) Try.results6 _ _ _ _ _ _ _ rfl F7.out.1 Try.underlying27 rfl (by kernel_rfl)) rfl ?_
      rw [EV2.out]
      exact ⟨e1, m1, j1, e2, m2, j2, d4, m3 + 1, k4, _, w4.heap.size, rfl, F7.out.2.2.1, F7.out.2.1⟩
end Go.Proofs.Ytkoojgbadpncdaa.By
