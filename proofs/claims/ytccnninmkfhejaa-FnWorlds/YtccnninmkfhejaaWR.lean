/-
  A range over a method value: the statement's law for a plain loop, whose rounds leave all that lay before them as it was (but for a round that ends the function); and a region that draws its order within a round, by the walk outside of one. No statement is proved here.
-/
import Derived.RangeFuncNested
import Derived.RangeFuncBound
import Derived.RangeFuncCalls
import Derived.RangeFuncLeaves
import Derived.Deep.RegionHeld
import Derived.Test.YtccnninmkfhejaaHBase
namespace Go.Proofs.Ytccnninmkfhejaa.By
open Go.RowKit
set_option linter.unusedVariables false
set_option linter.unusedSimpArgs false

/-- One operation, met in a round as outside of one. -/
theorem upon_round {P : Program} {o : Oper} {a : Act} {K : Act → World → Prop} {Q : Exit → Act → World → Prop} (l n : Nat) : ∀ {r : Result Next}, o.upon P a K Q r → o.uponIn (Fence.wide.inRound l) n P a K Q r
  | .ok (.value v) w, h => h
  | .ok .skip w, h => h
  | .ok (.defer d) w, h => h
  | .ok (.enter f args) w, h => ⟨fun h => (by cases h), CallsIn.inRound l (callsIn_wide.2 h)⟩
  | .halt (.panic v) w, h => h
  | .ok (.row row args) w, h => by
    refine ⟨fun h => (by cases h), fun c cs _ => ?_⟩
    obtain ⟨v, w', hr, hs⟩ := h c cs
    exact ⟨v, w', hr, stepsIn_wide.2 hs⟩
  | .ok (.round l f tmps assign body) w, h => h.elim

/-- A region that draws, within a round: every order of it walked as outside of one. -/
theorem wpIn_round_region {P : Program} {id : Nat} {ops : Array Oper} {Q : Exit → Act → World → Prop} {a : Act} {w : World} (l n : Nat)
    (hd : ∀ o ∈ ops.toList, ∀ c, o.op ≠ .defer c) (hL : ¬ LetsOut Q)
    (h : ∀ t, wpOps P ops Q (Region.schedule (P.follows .mixedOrders) ops t) a { w with drawn := w.drawn + 1 }) : (Code.region id ops true).wpIn (Fence.wide.inRound l) n P Q a w := by
  refine wpIn_region_draw fun t => ?_
  have H : ∀ (L : List Nat) (a : Act) (w : World), wpOps P ops Q L a w → wpOpsIn (Fence.wide.inRound l) n P ops Q L a w := by
    intro L
    induction L with
    | nil => exact fun a w h => h
    | cons i rest ih =>
      intro a w h
      simp only [wpOps, wpOpsIn] at h ⊢
      cases ho : ops[i]? with
      | none => simp only [ho] at h; exact ih _ _ h
      | some o =>
        simp only [ho] at h
        by_cases hw : Region.wanted o (yielded ops a.tmps) = true
        · simp only [hw, if_true] at h ⊢
          rcases h with h | ⟨-, h⟩
          · refine ⟨fun _ _ => trivial, ?_⟩
            rw [Fence.inRound_round, Oper.semAt_some l _ _ (hd o (by have := Array.mem_of_getElem? ho; simpa using this))]
            exact upon_round l n (Oper.wp_mono (fun a w h => ih a w h) h)
          · exact (hL h).elim
        · simp only [hw, Bool.false_eq_true, if_false] at h ⊢
          exact ⟨fun _ _ => trivial, ih _ _ h⟩
  exact H _ _ _ (h t)

theorem wpIn_round_held {P : Program} {id : Nat} {ops : Array Oper} {Q : Exit → Act → World → Prop} {a : Act} {w : World} {l n : Nat} {S : World → Prop} (hd : ∀ o ∈ ops.toList, ∀ c, o.op ≠ .defer c) (hL : ¬ LetsOut Q)
    (hm : P.follows .mixedOrders = true) (hS : S w.drew) (h : S w.drew → wpAnyH P .any ops Q S ops.size (Array.replicate ops.size false) a w.drew) : (Code.region id ops true).wpIn (Fence.wide.inRound l) n P Q a w :=
  wpIn_round_region l n hd hL fun t => by
    simp only [Region.schedule, hm, Bool.true_or, if_true]
    exact wpAny_sound ops.size t _ a _ (wpAny_of_held _ _ _ _ (h hS))

/-- How a round may be left. -/
def rpost (B : Nat) (I : Nat → Prop) (Ix : Nat → World → Prop) (k : Nat) (W : World) : Exit → Act → World → Prop
  | .normal, _, W' => KeepsFrom B W W' ∧ Below B W W' ∧ I (k + 1)
  | .ret, _, W' => KeepsFrom B W W' ∧ Ix k W'
  | _, _, _ => False
theorem rpost_lets {B : Nat} {I : Nat → Prop} {Ix : Nat → World → Prop} {k : Nat} {W : World} : ¬ LetsOut (rpost B I Ix k W) := fun ⟨_, _, h⟩ => h

/-- What a function that is ranged over does: N rounds, or fewer, where one has said that it is enough. -/
def Stops (P : Program) (gf : Nat) (recv : Value) (enc : Nat → Array Value) (N B : Nat) (w : World) : Prop :=
  ∀ (l : Nat) (J Jx : Nat → World → Prop) (W : World), Below B w W → (∀ k A o, J k A → J k (A.alloc o)) →
    (∀ k W1, J k W1 → k < N → ∀ m, YieldAt Fence.wide m P l (enc k) W1 fun e W' => (e = .returned (.bool true) ∧ J (k + 1) W' ∧ Below B W1 W') ∨ (e = .returned (.bool false) ∧ Jx k W')) →
    J 0 W → Calls P gf #[recv, .func (.yield l) #[] #[]] W fun e W' => (∃ v, e = .returned v) ∧ (J N W' ∨ ∃ k, k < N ∧ Jx k W')

theorem putObj_below {B : Nat} {w W : World} {l : Nat} {o o' : Obj} (h : Below B w W) (hl : B ≤ l) (ho : W.heap[l]? = some o) : Below B w (W.putObj l o') :=
  h.trans ⟨rfl, rfl, rfl, by simp, fun k hk => World.putObj_heap_other (by omega)⟩

/-- The statement. -/
theorem wpIn_ranged {P : Program} {g : Operand} {ps : Array Tmp} {assign body : Code} {Q : Exit → Act → World → Prop} {a : Act} {w : World} {gf : Nat} {recv : Value} {n : Nat}
    (hg : a.eval g = .func (.func gf) #[recv] #[]) (eg : ∀ args w, (callFunc gf args).run P w = .ok (.enter gf args) w)
    {enc : Nat → Array Value} {N : Nat} (hseq : Stops P gf recv enc N w.heap.size w) (hps : ∀ k, (enc k).size = ps.size)
    (I : Nat → Prop) (Ix : Nat → World → Prop) (hIx : ∀ k W l o o', w.heap.size ≤ l → W.heap[l]? = some o → Ix k W → Ix k (W.putObj l o')) (h0 : I 0)
    (a₁ : Nat → Nat → Act) (obj : Nat → Obj)
    (hassign : ∀ (l m k : Nat) (W : World) (K : Act → World → Prop), k < N → K (a₁ k W.heap.size) (W.alloc (obj k)) →
      assign.wpIn (Fence.wide.inRound l) m P (Exit.then K (fun _ _ _ => False)) { tmps := (ps.zip (enc k)).foldl (fun t (p, v) => t.setIfInBounds p v) a.tmps, defers := [] } W)
    (hbody : ∀ (l m k p : Nat) (W : World), k < N → I k → Below w.heap.size w W → w.heap.size ≤ p → W.heap[p]? = some (obj k) → body.wpIn (Fence.wide.inRound l) m P (rpost w.heap.size I Ix k W) (a₁ k p) W)
    (hdone : ∀ (D : Nat) (W : World), w.heap.size ≤ D → I N → Below w.heap.size w W → W.heap[D]? = some (.deferred (some [])) → Q .normal { a with defers := { target := .collected D, args := #[] } :: a.defers } W)
    (hstop : ∀ (D k : Nat) (W : World), w.heap.size ≤ D → k < N → Ix k W → W.heap[D]? = some (.deferred (some [])) → Code.ret.wpIn Fence.wide n P Q { a with defers := { target := .collected D, args := #[] } :: a.defers } W) :
    (Code.rangeFunc g ps assign body).wpIn Fence.wide n P Q a w := by
  refine wpIn_rangeFunc fun fn hfn => ?_
  obtain ⟨rec, hrec⟩ : ∃ rec : LoopState → Option Code → Loop, rec = fun st pe => { state := st, pending := pe, fn, tmps := a.tmps, params := ps, assign, body, defers := w.heap.size } := ⟨_, rfl⟩
  obtain ⟨W1, hW1⟩ : ∃ W1, (w.alloc (.deferred (some []))).alloc (.loop (rec .ready none)) = W1 := ⟨_, rfl⟩
  obtain ⟨B, hB⟩ : ∃ B, B = w.heap.size := ⟨_, rfl⟩
  have hL1 : W1.heap[w.heap.size + 1]? = some (.loop (rec .ready none)) := by
    rw [← hW1]; have := World.alloc_heap_new (w.alloc (.deferred (some []))) (.loop (rec .ready none)); rwa [World.size_alloc] at this
  have hK1 : W1.heap[w.heap.size]? = some (.deferred (some [])) := by
    rw [← hW1]; exact (Below.heap_alloc _ _ _ (by simp)).trans (World.alloc_heap_new w _)
  have hb1 : Below w.heap.size w W1 := by
    rw [← hW1]; exact ((Below.refl _ w).alloc (Nat.le_refl _) _).alloc (by simp) _
  refine ⟨w.heap.size + 1, [{ target := .collected w.heap.size, args := #[] }], W1, { target := .fn (.func gf) #[], args := #[recv, .func (.yield (w.heap.size + 1)) #[] #[]] }, W1, gf,
    #[recv, .func (.yield (w.heap.size + 1)) #[] #[]], W1, ?_, ?_, fun _ _ => trivial, ?_, fun h => (by cases h), ?_⟩
  · rw [← hW1, hrec]; exact run_enterLoop_outer _ _ _ _ _
  · simp only [resolve, hg]
    simp [go_sem]
  · simp [invoke, go_sem, eg]
  · refine callsIn_wide.2 ((hseq (w.heap.size + 1)
      (fun k W => I k ∧ Below w.heap.size w W ∧ W.heap[w.heap.size + 1]? = some (.loop (rec .ready none)) ∧ W.heap[w.heap.size]? = some (.deferred (some [])))
      (fun k W => Ix k W ∧ W.heap[w.heap.size + 1]? = some (.loop (rec .done (some .ret))) ∧ W.heap[w.heap.size]? = some (.deferred (some [])))
      W1 hb1 ?_ ?_ ⟨h0, hb1, hL1, hK1⟩).mono ?_)
    · rintro k A o ⟨hi, hb, hl, hk⟩
      have hlt := (Array.getElem?_eq_some_iff.1 hl).1
      exact ⟨hi, hb.alloc (by omega) o, (Below.heap_alloc A o _ hlt).trans hl, (Below.heap_alloc A o _ (by omega)).trans hk⟩
    · rintro k W ⟨hi, hb, hl, hk⟩ hkN m
      have hlt := (Array.getElem?_eq_some_iff.1 hl).1
      have hy := run_yield (P := P) (args := enc k) hl (by rw [hrec]; exact hps k)
      rw [hrec] at hy
      refine ⟨fn, _, assign, body, hy, roundIn_of_wpIn trivial (hassign _ m k W _ hkN ?_)⟩
      clear hy
      have hl' : (W.alloc (obj k)).heap[w.heap.size + 1]? = some (.loop (rec .ready none)) := (Below.heap_alloc W _ _ hlt).trans hl
      have hk' : (W.alloc (obj k)).heap[w.heap.size]? = some (.deferred (some [])) := (Below.heap_alloc W _ _ (by omega)).trans hk
      have hb' := hb.alloc (by omega) (obj k)
      have hp' : (W.alloc (obj k)).heap[W.heap.size]? = some (obj k) := World.alloc_heap_new W _
      have hlt' : w.heap.size + 1 < (W.alloc (obj k)).heap.size := (Array.getElem?_eq_some_iff.1 hl').1
      have hWW : Below w.heap.size W (W.alloc (obj k)) := (Below.refl _ W).alloc (by omega) _
      generalize hV : W.alloc (obj k) = V at *
      clear hV
      refine ⟨_, run_beginRound hl' (by rw [hrec]), ?_⟩
      have hl2 : (V.putObj (w.heap.size + 1) (.loop { rec .ready none with state := .busy })).heap[w.heap.size + 1]? = some (.loop { rec .ready none with state := .busy }) := World.putObj_heap_same hlt'
      have hk2 : (V.putObj (w.heap.size + 1) (.loop { rec .ready none with state := .busy })).heap[w.heap.size]? = some (.deferred (some [])) := (World.putObj_heap_other (by omega)).trans hk'
      have hw2 : Below w.heap.size V (V.putObj (w.heap.size + 1) (.loop { rec .ready none with state := .busy })) := putObj_below (Below.refl _ V) (by omega) hl'
      have hp2 : (V.putObj (w.heap.size + 1) (.loop { rec .ready none with state := .busy })).heap[W.heap.size]? = some (obj k) := (World.putObj_heap_other (by omega)).trans hp'
      refine wpIn_mono (hbody _ m k W.heap.size _ hkN hi (hb'.trans hw2) (by omega) hp2) ?_
      have fin : ∀ (jump : Option Code) (W3 : World), KeepsFrom w.heap.size (V.putObj (w.heap.size + 1) (.loop { rec .ready none with state := .busy })) W3 →
          (Instr.endRound (w.heap.size + 1) jump).run P W3 = .ok (.bool jump.isNone) (W3.putObj (w.heap.size + 1) (.loop (rec (if jump.isNone then .ready else .done) jump))) ∧
          W3.heap[w.heap.size + 1]? = some (.loop { rec .ready none with state := .busy }) ∧
          (W3.putObj (w.heap.size + 1) (.loop (rec (if jump.isNone then .ready else .done) jump))).heap[w.heap.size + 1]? = some (.loop (rec (if jump.isNone then .ready else .done) jump)) ∧
          (W3.putObj (w.heap.size + 1) (.loop (rec (if jump.isNone then .ready else .done) jump))).heap[w.heap.size]? = some (.deferred (some [])) := fun jump W3 hk3 => by
        have hl3 := hk3.same _ _ (by omega) hl2 rfl
        have := run_endRound (P := P) jump hl3
        rw [hrec] at this ⊢
        exact ⟨this, by rw [hrec] at hl3; exact hl3, World.putObj_heap_same (Array.getElem?_eq_some_iff.1 hl3).1, (World.putObj_heap_other (by omega)).trans (hk3.same _ _ (Nat.le_refl _) hk2 rfl)⟩
      rintro e a3 W3 hp
      cases e with
      | normal =>
        obtain ⟨hk3, hb3, hi3⟩ := hp
        obtain ⟨hr, hl3, hl4, hk4⟩ := fin none W3 hk3
        have h4 := putObj_below (o' := .loop (rec .ready none)) ((hWW.trans hw2).trans hb3) (by omega : w.heap.size ≤ w.heap.size + 1) hl3
        exact ⟨_, _, hr, .inl ⟨rfl, ⟨hi3, hb.trans h4, hl4, hk4⟩, h4⟩⟩
      | ret =>
        obtain ⟨hk3, hi3⟩ := hp
        obtain ⟨hr, hl3, hl4, hk4⟩ := fin (some .ret) W3 hk3
        exact ⟨_, _, hr, .inr ⟨rfl, hIx _ _ _ _ _ (by omega) hl3 hi3, hl4, hk4⟩⟩
      | exit id => exact hp.elim
      | goto t => exact hp.elim
      | panic ch => exact hp.elim
      | outgrown => exact hp.elim
    · rintro e W2 ⟨⟨v, rfl⟩, (⟨hi, hb, hl, hk⟩ | ⟨k, hkN, hi, hl, hk⟩)⟩
      · exact ⟨none, _, by have := run_endLoop (P := P) hl (by rw [hrec]; simp); rw [hrec] at this; exact this, hdone _ _ (Nat.le_refl _) hi (putObj_below hb (by omega) hl) ((World.putObj_heap_other (by omega)).trans hk)⟩
      · exact ⟨some .ret, _, by have := run_endLoop (P := P) hl (by rw [hrec]; simp); rw [hrec] at this; exact this, hstop _ k _ (Nat.le_refl _) hkN (hIx _ _ _ _ _ (by omega) hl hi) ((World.putObj_heap_other (by omega)).trans hk)⟩
end Go.Proofs.Ytccnninmkfhejaa.By
