/-
  For every heap and every place, laws.FnExactLoad answers true and the heap reads as it did: Load, the program's, answers as the specification's Load, field by field, writes into no argument, and owns what it answers. Conditions: the row's own (impl.errOutside holds what the program's text lays: the tied card, over the pruned copy of the project).
-/
import Derived.Test.YtonmcndedbmbfabDoorCards
import Derived.Test.YtonmcndedbmbfabDoorTie
import Derived.Test.YtonmcndedbmbfabDoorHOpen
import Derived.Test.YtonmcndedbmbfabDoorLawLoad
import Derived.WalkKit
import Derived.ProofKit
import Derived.OpenShut
import Derived.ShutString
import Derived.ChangeOld
import Derived.ChangeSame
import Derived.ChangeVars
import Derived.JoinedOf
import Derived.RowKit
import Derived.RowKitTokens
import Derived.LaidLaws
import Derived.LaidHandle
import Derived.Stop.LaidErr
import Derived.SevenTiedAt
import Derived.Below
namespace Go.Proofs.YtonmcndedbmbfabDoor.fnExactLoad
open Go.ChangeShapes Go.WideShapes Go.ChangeAt Go.RowKit
set_option linter.unusedVariables false

theorem own : ownKnob Tryd.prog.godebug = none := by kernel_rfl
theorem laidOut : laidOutB Tryd.prog = true := by kernel_rfl
theorem below_grown {w w' : World} (h : w.grownBy w' none) : Below w.heap.size w w' := (Below.refl _ _).grown h (Nat.le_refl _) (fun k hk => by simp at hk)
theorem gVar : Tryd.prog.globalNamed "loop.example/g00293/impl.errOutside" = some 1 := by kernel_rfl
theorem gType : (Tryd.prog.globals[1]?).map (·.type) = some 53 := by kernel_rfl
theorem cellsS : Tryd.prog.cellsOf 118 = 1 := by kernel_rfl
theorem cells9 : Tryd.prog.cellsOf 9 = 1 := by kernel_rfl
theorem star : "*" ++ "errors.errorString" = "*errors.errorString" := by decide
theorem rowE (u : TypeId) (h : Tryd.prog.typeName? 3 u = some "*errors.errorString") : u = 93 :=
  typeName_ptr_named (nm := "errors.errorString") (by rw [star]; kernel_rfl) (by kernel_rfl) (by decide) u (by rw [star]; exact h)
theorem var_grown {P : Program} {W W' : World} {n : String} {cs : Array Value} (h : W.var? P n = some cs) (hg : W.grownBy W' none) : W'.var? P n = some cs := by
  unfold World.var? at h ⊢
  cases e : P.globalNamed n with
  | none => simp [e] at h
  | some g =>
    simp only [e, Option.bind_some] at h ⊢
    have hlt : g < W.heap.size := by
      rcases Nat.lt_or_ge g W.heap.size with h' | h'
      · exact h'
      · simp [Array.getElem?_eq_none h'] at h
    rw [hg.block g hlt (by simp)]
    exact h

abbrev text : ByteArray := { data := #[111, 117, 116, 115, 105, 100, 101, 32, 111, 102, 32, 119, 104, 97, 116, 32, 119, 97, 115, 32, 116, 97, 107, 101, 110] }
noncomputable def low : Nat := (World.holding Tryd.prog default ⟨#[], #[], []⟩).heap.size
/-- A world that meets the condition: the settled one, the sentinel laid. -/
noncomputable def laidWorld (os : Os) : World :=
  let w0 := World.holding Tryd.prog os ⟨#[.cells #[.string text] 118], #[], []⟩
  { w0 with heap := w0.heap.modify 1 fun
      | .cells _ t frozen => .cells #[.iface 93 (.pointer (some ⟨low, 0, none⟩))] t frozen
      | o => o }
theorem laid_met (os : Os) (args : Array Value) : laidMetH Tryd.prog Rows.fnExactLoadRow.laid ((laidWorld os).forCall (fun _ _ => 0) ⟨#[], args, []⟩).memory :=
  laidMetH_of_parts (laidMet_of_run (ps := [.cell 1 0, .cell low 0]) 8 (by kernel_rfl) (by kernel_rfl) (by kernel_rfl)) (by kernel_rfl)

set_option maxRecDepth 100000 in
theorem lifted (os : Os) (started : os.Started) (H : Type) (enc : TypeId × Value → H) :
    ReturnsInHanded {} Tryd.checked os 4 .any (fun w args => (Rows.fnExactLoadSpec.pre enc Tryd.prog Tryd.f4 [] false w args ∧ laidMetH Tryd.prog Rows.fnExactLoadRow.laid w) ∧ sizedMet enc Tryd.prog Tryd.f4 (OpenSpec.ofChange Rows.fnExactLoadSpec) false w args)
      (Rows.fnExactLoadSpec.post enc Tryd.prog Tryd.f4 false true false false) := by
  refine returnsInHanded_of_change_and (C := Tryd.checked) (X := fun w _ => laidMetH Tryd.prog Rows.fnExactLoadRow.laid w) (fun _ _ _ hh h => h.of_heap hh) own started (by kernel_rfl) Tryd.func4
    (ChangeSpec.witness_at (enc := enc) (C := Tryd.checked) (os := os) (X := fun w _ => laidMetH Tryd.prog Rows.fnExactLoadRow.laid w) false (laidWorld os) #[.agg #[.slice none 0 0, .int .i64 0, .int .i64 0, .int .i64 0, .slice none 0 0], .int .i64 0, .int .i64 0] 8 rfl (by kernel_rfl) (by kernel_rfl) (by kernel_rfl) (by kernel_rfl) (by kernel_rfl) (laid_met os _)) ?_
  intro W base args ds gs before hval0 hW _ _ hL _
  have hval : ∀ (j : Nat) t v, Tryd.f4.params[j]? = some t → args[j]? = some v → Value.okWide Tryd.prog W .any base t v := hval0
  have hW' := hW
  obtain ⟨p, q, hA0, hV0, rfl, hfz, hnd⟩ := hW
  have hA : DataW.TrodAll enc Tryd.prog W 0 (fun _ => true) true Tryd.f4.params.toList args.toList ds p := hA0
  have hV : DataW.TrodVars enc Tryd.prog W (fun _ => true) ["loop.example/g00293/impl.errOutside"] gs q := hV0
  rw [Tryd.params4] at hA hval
  obtain ⟨v0, vs0, d0, ds0, p0, q0, hargs, rfl, rfl, h0, r0⟩ := trodAll_cons hA
  obtain ⟨v1, vs1, d1, ds1, p1, q1, rfl, rfl, rfl, h1, r1⟩ := trodAll_cons r0
  obtain ⟨v2, vs2, d2, ds2, p2, q2, rfl, rfl, rfl, h2, r2⟩ := trodAll_cons r1
  obtain ⟨rfl, rfl, rfl⟩ := trodAll_nil r2
  obtain rfl : args = #[v0, v1, v2] := by cases args; simp_all
  have hL' : laidMet Tryd.prog Rows.fnExactLoadRow.laid W := hL
  obtain ⟨er, s0, hv0, -, -, -⟩ := laid_sentinel hL' gVar gType Tryd.underlying53 rowE Tryd.underlying93 Tryd.underlying118 rfl rfl Tryd.underlying9 cellsS cells9
  have vr : ∀ {X : World}, X.var? Tryd.prog "loop.example/g00293/impl.errOutside" = some #[.iface 93 (.pointer (some er))] → ∀ sp : Nat → Bool,
      DataW.TrodVars enc Tryd.prog X sp ["loop.example/g00293/impl.errOutside"] [tok enc (.iface 93 (.pointer (some er)))] [.cell 1 0] :=
    fun x0 sp => vars_read1 enc gVar gType Tryd.underlying53 x0 trivial sp
  obtain ⟨rfl, rfl⟩ := hV.unique (vr hv0 _)
  have hg0 : W.cell? ⟨1, 0, none⟩ = some (.iface 93 (.pointer (some er))) := by simpa using World.var?_cell gVar hv0 0
  have k0' := h0
  have lt0 : ∀ x ∈ p0, x.block < W.heap.size := by obtain ⟨m, hm⟩ := k0'; exact DataW.trod_lt m _ _ _ hm
  obtain ⟨a, n, c, half, low, next, b, m, e, ws, ls, rfl, hr, hr', hn, hm, wq1, wq2, wq3, wz⟩ := By.openHeap (hval 0 25 v0 rfl rfl) h0
  obtain ⟨k0, rfl, rfl, rfl, wk0⟩ := open_int Tryd.underlying3 (hval 1 3 v1 rfl rfl) h1
  obtain ⟨k1, rfl, rfl, rfl, wk1⟩ := open_int Tryd.underlying3 (hval 2 3 v2 rfl rfl) h2
  clear hA0 hV0 hval0
  refine (By.lawAllLoad n m c e a b half low next ws ls k0 k1 er W hr hr' hn hm hg0).mono fun e W' ⟨he, hgr⟩ => ?_
  have bel := below_grown hgr
  subst he
  exact ⟨_, rfl, _, _, _, [], _, [.cell 1 0], hW', trodAll_mk1 (shut_bool Tryd.underlying4 _), (trodAll_cons_mk (Below.trod laidOut (by kernel_rfl) (of_decide_eq_true (by kernel_rfl)) k0' bel lt0) (trodAll_cons_mk (shut_int Tryd.underlying3 wk0) (trodAll_cons_mk (shut_int Tryd.underlying3 wk1) trodAll_mk0))), vr (var_grown hv0 hgr) _, bel.frame _, fun h => by cases h⟩

theorem over : Rows.FnExactLoadSaid :=
  OpenClaim.holds_of_wide 4 Tryd.f4 rfl rfl rfl rfl rfl rfl rfl ⟨rfl, rfl, rfl, rfl, rfl⟩ rfl rfl rfl rfl rfl (by kernel_rfl) Tryd.func4 (by kernel_rfl)
    (of_decide_eq_true (by kernel_rfl)) (by unfold Func.isWrapper; first | (rw [if_pos (by decide +kernel)]; kernel_rfl) | (rw [if_neg (by decide +kernel)]; exact ⟨rfl, rfl⟩))
    (fun os started H enc _ => lifted os started H enc)

/-- No parameter wants a stand-in. -/
theorem plain (f : FuncId) (fn : Func) (hf : Tryd.pinned.checked.prog.funcNamed "loop.example/g00293/laws.FnExactLoad" = some f) (hfn : Tryd.pinned.checked.prog.funcs[f]? = some fn) :
    true = Tryd.pinned.checked.prog.looks [] ∧ ∀ (j : Nat) t, fn.params[j]? = some t → Tryd.pinned.checked.prog.wantsStandIn t = false := by
  obtain rfl : f = 4 := Option.some.inj ((show Tryd.prog.funcNamed "loop.example/g00293/laws.FnExactLoad" = some 4 by kernel_rfl).symm.trans hf) |>.symm
  obtain rfl : fn = Tryd.f4 := (Option.some.inj (Tryd.func4.symm.trans hfn)).symm
  refine ⟨by kernel_rfl, fun j t ht => ?_⟩
  rw [Tryd.params4] at ht
  have ht' : t = 25 ∨ t = 3 := by have := Array.mem_of_getElem? ht; simp at this; omega
  rcases ht' with rfl | rfl
  · exact (show Tryd.prog.wantsStandIn 25 = false by kernel_rfl)
  · exact (show Tryd.prog.wantsStandIn 3 = false by kernel_rfl)
end Go.Proofs.YtonmcndedbmbfabDoor.fnExactLoad

namespace Go.Proofs.YtonmcndedbmbfabDoor
/-- The given statement: the tied card. -/
theorem fnExactLoad_card : Rows.FnExactLoadCardSaid :=
  Claim7.holds_tied_plain_at .later [] _ _ _ _ fnExactLoad.over (fun _ h => by cases h) (by kernel_rfl) (fun _ h => by cases h) fnExactLoad_row_tie rfl ⟨rfl, rfl⟩ (by kernel_rfl) rfl fnExactLoad.plain (by kernel_rfl)
#print axioms fnExactLoad_card
end Go.Proofs.YtonmcndedbmbfabDoor
