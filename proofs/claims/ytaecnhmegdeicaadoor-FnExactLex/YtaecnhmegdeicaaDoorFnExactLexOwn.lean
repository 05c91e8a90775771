/-
  laws.FnExactLex answers true at every text and leaves it as it was: impl.Lex answers as the specification, writes into no argument, and its tokens own their memory; conditions: the tables and the two error values of the library lie as their initialisers lay them, bytealg.MaxLen holds any number.
-/
import Derived.Test.YtaecnhmegdeicaaDoorCards
import Derived.Test.YtaecnhmegdeicaaDoorTie
import Derived.Test.YtaecnhmegdeicaaDoorLawLex
import Derived.WalkKit
import Derived.ProofKit
import Derived.OpenShut
import Derived.ShutString
import Derived.ChangeOld
import Derived.ChangeSame
import Derived.ChangeVars
import Derived.JoinedOf
import Derived.RowKit
import Derived.RowKitTokens
import Derived.LaidLaws
import Derived.LaidHandle
import Derived.Stop.LaidErr
import Derived.Stop.LaidTwo
import Derived.Lib.LaidTab
import Derived.Lib.AppendIntMem
import Derived.SizedLaws
import Derived.Shelf.Vars
import Derived.SevenTiedAt
import Derived.OpenVars
import Derived.Deep.DeepLaidRun
import Derived.Below
namespace Go.Proofs.YtaecnhmegdeicaaDoor.fnExactLex
open Go.ChangeShapes Go.WideShapes Go.ChangeAt Go.RowKit
set_option linter.unusedVariables false

theorem own : ownKnob Tryd.prog.godebug = none := by kernel_rfl
theorem laidOut : laidOutB Tryd.prog = true := by kernel_rfl
theorem below_grown {w w' : World} (h : w.grownBy w' none) : Below w.heap.size w w' := (Below.refl _ _).grown h (Nat.le_refl _) (fun k hk => by simp at hk)
/-- The wrap, with the list of what lies in the variables and with the world's shape. -/
theorem wrap_shaped {H : Type} {enc : TypeId × Value → H} {C : Checked} {os : Os} {f : FuncId} {fn : Func} {s : ChangeSpec} {conds : List PathCond} {apart fresh handsOn again : Bool} {X : World → Array Value → Prop}
    (hX : ∀ (w w' : World) (args : Array Value), w.heap = w'.heap → X w args → X w' args)
    (own : ownKnob C.prog.godebug = none) (started : os.Started) (noInit : C.prog.inits.idxOf? f = none) (hfn : C.prog.funcs[f]? = some fn)
    (witness : ∃ (w : World) (tape : Tape) (i : Input), w.os = os ∧ (w.forCall tape i).Shaped C.prog ∧ i.vars = [] ∧ Input.okWide C.prog (w.forCall tape i) .any w.heap.size f i ∧
      ((s.pre enc C.prog fn conds apart (w.forCall tape i).memory i.args ∧ X (w.forCall tape i).memory i.args) ∧ sizedMet enc C.prog fn (OpenSpec.ofChange s) apart (w.forCall tape i).memory i.args) ∧ Assume.holds {} C.prog (lone (Frame.enter C.prog f i.args .normal) [] (w.forCall tape i)))
    (contract : ∀ (W : World) (args : Array Value) (ds gs : List (DataW H)) (before : List MemPlace),
      (∀ (j : Nat) t v, fn.params[j]? = some t → args[j]? = some v → Value.okWide C.prog W .any 0 t v) →
      DataW.Whole enc C.prog fn.params.toList s.vars apart W args.toList ds gs before → X W args → W.ShapedOpen C.prog →
      Calls C.prog f args W fun e W' => ∃ v, e = .returned v ∧ s.post enc C.prog fn apart fresh handsOn again W args v W') :
    ReturnsInHanded {} C os f .any (fun w args => (s.pre enc C.prog fn conds apart w args ∧ X w args) ∧ sizedMet enc C.prog fn (OpenSpec.ofChange s) apart w args) (s.post enc C.prog fn apart fresh handsOn again) := by
  refine returnsInHanded_of_calls own started noInit witness ?_
  intro w tape i _ hsh _ hok hpre _
  obtain ⟨_, _, _, fn', hfn', _, _, _, _, hval⟩ := hok
  obtain rfl : fn' = fn := Option.some.inj (hfn'.symm.trans hfn)
  obtain ⟨⟨⟨ds, gs, before, hw, _⟩, hx⟩, _⟩ := hpre
  refine (contract (w.forCall tape i) i.args ds gs before (fun j t v h1 h2 => hval j t v h1 h2) (DataW.Whole.of_heap (w' := w.forCall tape i) (by rfl) hw) (hX _ _ _ (by rfl) hx) hsh).mono fun e W' ⟨v, he, hp⟩ => ?_
  subst he
  exact ChangeSpec.post_blind hp

abbrev textS : ByteArray := { data := #[105, 110, 118, 97, 108, 105, 100, 32, 115, 121, 110, 116, 97, 120] }
abbrev textR : ByteArray := { data := #[118, 97, 108, 117, 101, 32, 111, 117, 116, 32, 111, 102, 32, 114, 97, 110, 103, 101] }
theorem gVar3 : Tryd.prog.globalNamed "strconv.ErrSyntax" = some 3 := by kernel_rfl
theorem gVar4 : Tryd.prog.globalNamed "strconv.ErrRange" = some 4 := by kernel_rfl
theorem gType3 : (Tryd.prog.globals[3]?).map (·.type) = some 64 := by kernel_rfl
theorem gType4 : (Tryd.prog.globals[4]?).map (·.type) = some 64 := by kernel_rfl
theorem gVar5 : Tryd.prog.globalNamed "internal/strconv.uint64pow10" = some 5 := by kernel_rfl
theorem gType5 : (Tryd.prog.globals[5]?).map (·.type) = some 102 := by kernel_rfl
theorem gVar1 : Tryd.prog.globalNamed "unicode/utf8.first" = some 1 := by kernel_rfl
theorem gType1 : (Tryd.prog.globals[1]?).map (·.type) = some 71 := by kernel_rfl
theorem gVar2 : Tryd.prog.globalNamed "unicode/utf8.acceptRanges" = some 2 := by kernel_rfl
theorem gType2 : (Tryd.prog.globals[2]?).map (·.type) = some 74 := by kernel_rfl
theorem cellsS : Tryd.prog.cellsOf 100 = 1 := by kernel_rfl
theorem cells9 : Tryd.prog.cellsOf 9 = 1 := by kernel_rfl
theorem star : "*" ++ "errors.errorString" = "*errors.errorString" := by decide
theorem rowE (u : TypeId) (h : Tryd.prog.typeName? 3 u = some "*errors.errorString") : u = 98 :=
  typeName_ptr_named (nm := "errors.errorString") (by rw [star]; kernel_rfl) (by kernel_rfl) (by decide) u (by rw [star]; exact h)
def firstZ : List Int := Go.Pinned.utf8FirstZ.map fun (n : Nat) => (n : Int)
theorem first_dat : Rows.laid_unicode_utf8_first = Lib.tabData .u8 firstZ := by kernel_rfl
theorem first_len : firstZ.length = 256 := by kernel_rfl
theorem first_at : ((List.range 256).all fun i => decide (i < 128) || decide (firstZ.getD i 0 = By.fstV i)) = true := by kernel_rfl

/-- What the table of ranges holds, as its initialiser lays it. -/
def rngL : List (Int × Int) := [(128, 191), (160, 191), (128, 159), (144, 191), (128, 143), (0, 0), (0, 0), (0, 0), (0, 0), (0, 0), (0, 0), (0, 0), (0, 0), (0, 0), (0, 0), (0, 0)]
def datR {H : Type} (r : Int × Int) : DataW H := .agg [.lit (.int .u8 r.1), .lit (.int .u8 r.2)]
theorem rng_dat : Rows.laid_unicode_utf8_acceptRanges = (.agg (rngL.map datR) : DataW Unit) := by kernel_rfl
section
variable {H : Type} {enc : TypeId × Value → H} {W : World} {base : Nat} {spare : Nat → Bool} {held : Bool}
set_option maxRecDepth 8000 in
theorem rng_of {m : Nat} {cs : List Value} {r : Int × Int} {p : List MemPlace} (h : DataW.trod enc Tryd.prog W base spare held m 73 cs = some (datR r, p)) : cs = [.int .u8 r.1, .int .u8 r.2] := by
  have c5 : Tryd.prog.cellsOf 5 = 1 := by kernel_rfl
  have c73 : Tryd.prog.cellsOf 73 = 2 := by kernel_rfl
  obtain ⟨xs, n, hn, hx, hl, hxl, hf⟩ := DataW.trod_struct Tryd.underlying73 h
  have f0 : DataW.trod enc Tryd.prog W base spare held n 5 ((cs.drop 0).take (Tryd.prog.cellsOf 5)) = xs[0]? := hf 0 _ rfl
  have f1 : DataW.trod enc Tryd.prog W base spare held n 5 ((cs.drop 1).take (Tryd.prog.cellsOf 5)) = xs[1]? := hf 1 _ rfl
  rw [c5] at f0 f1
  have hx2 : xs.length = 2 := hxl
  rw [c73] at hl
  match cs, hl with
  | [v0, v1], _ =>
  match xs, hx2 with
  | [x0, x1], _ =>
  obtain ⟨n0, e0, d0, _⟩ := DataW.trod_int Tryd.underlying5 (show DataW.trod enc Tryd.prog W base spare held n 5 [v0] = some x0 from f0)
  obtain ⟨n1, e1, d1, _⟩ := DataW.trod_int Tryd.underlying5 (show DataW.trod enc Tryd.prog W base spare held n 5 [v1] = some x1 from f1)
  subst d0 d1
  have hd := congrArg Prod.fst hx
  simp only [datR, List.map_cons, List.map_nil, DataW.agg.injEq, List.cons.injEq, DataW.lit.injEq, Lit.int.injEq, true_and, and_true] at hd
  obtain ⟨q0, q1⟩ := hd
  cases e0; cases e1
  rw [q0, q1]
theorem rngs_of {fuel : Nat} {cs : List Value} {p : List MemPlace} (h : DataW.trod enc Tryd.prog W base spare held fuel 74 cs = some (.agg (rngL.map datR), p)) (i : Nat) (hi : i < 16) : cs[i * 2]? = some (.int .u8 (rngL.getD i (0, 0)).1) ∧ cs[i * 2 + 1]? = some (.int .u8 (rngL.getD i (0, 0)).2) := by
  have c73 : Tryd.prog.cellsOf 73 = 2 := by kernel_rfl
  obtain ⟨xs, m, hm, hx, hl, hxl, he⟩ := DataW.trod_array Tryd.underlying74 h
  have hd : rngL.map datR = xs.map (·.1) := by
    have := congrArg Prod.fst hx
    simpa only [DataW.agg.injEq] using this
  have h1 := he i hi
  rw [c73] at h1
  have hr : rngL[i]? = some (rngL.getD i (0, 0)) := by
    rw [List.getD_eq_getElem?_getD]
    have hl16 : i < rngL.length := hi
    rw [List.getElem?_eq_getElem hl16]; rfl
  have h2 : (xs.map (·.1))[i]? = some (datR (rngL.getD i (0, 0))) := by rw [← hd, List.getElem?_map, hr]; rfl
  rw [List.getElem?_map] at h2
  obtain ⟨⟨y, z⟩, hy, hz⟩ := Option.map_eq_some_iff.1 h2
  rw [hy] at h1
  obtain rfl : y = datR (rngL.getD i (0, 0)) := hz
  have h3 := rng_of h1
  have g0 := congrArg (·[0]?) h3
  have g1 := congrArg (·[1]?) h3
  simp [List.getElem?_drop] at g0 g1
  exact ⟨g0, g1⟩
end
theorem rng_in {W : World} {rest : List (String × DataW Unit)} (h : laidMet Tryd.prog (("unicode/utf8.acceptRanges", Rows.laid_unicode_utf8_acceptRanges) :: rest) W) (i : Nat) (hi : i < 16) : W.cell? ⟨2, i * 2, none⟩ = some (.int .u8 (rngL.getD i (0, 0)).1) ∧ W.cell? ⟨2, i * 2 + 1, none⟩ = some (.int .u8 (rngL.getD i (0, 0)).2) := by
  obtain ⟨ps, ⟨g, t, cs, fuel, p, q, hg, ht, hvar, hd, _, _⟩, _⟩ := h
  obtain rfl := Option.some.inj (gVar2.symm.trans hg)
  obtain rfl := Option.some.inj (gType2.symm.trans ht)
  rw [rng_dat] at hd
  obtain ⟨r0, r1⟩ := rngs_of hd i hi
  exact ⟨by rw [World.var?_cell gVar2 hvar]; simpa using r0, by rw [World.var?_cell gVar2 hvar]; simpa using r1⟩
theorem env_in {W : World} (hL : laidMet Tryd.prog Rows.fnExactLexRow.laid W) (hsh : W.ShapedOpen Tryd.prog) : By.EnvX W := by
  have htab : Lib.TabIs Tryd.prog W "internal/strconv.uint64pow10" .u64 Lib.pow10Tab := Lib.tabIs_of_head gVar5 gType5 Tryd.underlying102 Tryd.underlying83 (by kernel_rfl) (by kernel_rfl) hL.tail.tail
  obtain ⟨er0, er1, s0, s1, c0, c1, t0, t1, hv0, hv1, -⟩ := laid_sentinels2 hL.tail.tail.tail.tail gVar4 gType4 gVar3 gType3 Tryd.underlying64 rowE Tryd.underlying98 Tryd.underlying100 rfl rfl Tryd.underlying9 cellsS cells9
  have hF := hL.tail.tail.tail.tail.tail.tail
  have hF2 : laidMet Tryd.prog (("unicode/utf8.first", Lib.tabData .u8 firstZ) :: []) W := by rw [← first_dat]; exact hF
  have hT : Lib.TabIs Tryd.prog W "unicode/utf8.first" .u8 firstZ := Lib.tabIs_of_head gVar1 gType1 Tryd.underlying71 Tryd.underlying5 (by kernel_rfl) (by kernel_rfl) hF2
  have hR := fun i hi => rng_in hL.tail.tail.tail i hi
  refine ⟨fun u hu => Lib.tabBelow_of_tabIs htab u (below_grown hu), ⟨?_, ?_, ?_⟩, ⟨_, by simpa using World.var?_cell gVar3 hv1 0, .inr ⟨_, _, rfl⟩⟩, ⟨_, by simpa using World.var?_cell gVar4 hv0 0, .inr ⟨_, _, rfl⟩⟩⟩
  · exact cell_of_shapedOpen_int (zero := #[.int .i64 0]) hsh (of_decide_eq_true (by kernel_rfl)) (by kernel_rfl) rfl (by kernel_rfl) (by kernel_rfl) Tryd.underlying3
  · intro i h1 h2
    rw [hT.cell gVar1 i (by rw [first_len]; exact h2)]
    have := List.all_eq_true.1 first_at i (List.mem_range.2 h2)
    simp only [Bool.or_eq_true, decide_eq_true_eq] at this
    rcases this with h | h
    · omega
    · rw [h]
  · exact ⟨(hR 0 (by decide)).1, (hR 0 (by decide)).2, (hR 1 (by decide)).1, (hR 1 (by decide)).2, (hR 2 (by decide)).1, (hR 2 (by decide)).2, (hR 3 (by decide)).1, (hR 3 (by decide)).2, (hR 4 (by decide)).1, (hR 4 (by decide)).2⟩

noncomputable def low : Nat := (World.holding Tryd.prog default ⟨#[], #[], []⟩).heap.size
/-- A world that meets the condition: the settled one, the tables and sentinels laid. -/
noncomputable def laidWorld (os : Os) : World :=
  let w0 := World.holding Tryd.prog os ⟨#[.cells #[.string textR] 100, .cells #[.string textS] 100], #[], []⟩
  { w0 with heap := (((((((w0.heap).modify 6 fun
      | .cells _ t frozen => .cells #[.int .u8 0, .int .u8 1, .int .u8 28, .int .u8 2, .int .u8 29, .int .u8 14, .int .u8 24, .int .u8 3, .int .u8 30, .int .u8 22, .int .u8 20, .int .u8 15, .int .u8 25, .int .u8 17, .int .u8 4, .int .u8 8, .int .u8 31, .int .u8 27, .int .u8 13, .int .u8 23, .int .u8 21, .int .u8 19, .int .u8 16, .int .u8 7, .int .u8 26, .int .u8 12, .int .u8 18, .int .u8 6, .int .u8 11, .int .u8 5, .int .u8 10, .int .u8 9] t frozen
      | o => o).modify 7 fun
      | .cells _ t frozen => .cells #[.int .u8 0, .int .u8 1, .int .u8 56, .int .u8 2, .int .u8 57, .int .u8 49, .int .u8 28, .int .u8 3, .int .u8 61, .int .u8 58, .int .u8 42, .int .u8 50, .int .u8 38, .int .u8 29, .int .u8 17, .int .u8 4, .int .u8 62, .int .u8 47, .int .u8 59, .int .u8 36, .int .u8 45, .int .u8 43, .int .u8 51, .int .u8 22, .int .u8 53, .int .u8 39, .int .u8 33, .int .u8 30, .int .u8 24, .int .u8 18, .int .u8 12, .int .u8 5, .int .u8 63, .int .u8 55, .int .u8 48, .int .u8 27, .int .u8 60, .int .u8 41, .int .u8 37, .int .u8 16, .int .u8 46, .int .u8 35, .int .u8 44, .int .u8 21, .int .u8 52, .int .u8 32, .int .u8 23, .int .u8 11, .int .u8 54, .int .u8 26, .int .u8 40, .int .u8 15, .int .u8 34, .int .u8 20, .int .u8 31, .int .u8 10, .int .u8 25, .int .u8 14, .int .u8 19, .int .u8 9, .int .u8 13, .int .u8 8, .int .u8 7, .int .u8 6] t frozen
      | o => o).modify 5 fun
      | .cells _ t frozen => .cells #[.int .u64 1, .int .u64 10, .int .u64 100, .int .u64 1000, .int .u64 10000, .int .u64 100000, .int .u64 1000000, .int .u64 10000000, .int .u64 100000000, .int .u64 1000000000, .int .u64 10000000000, .int .u64 100000000000, .int .u64 1000000000000, .int .u64 10000000000000, .int .u64 100000000000000, .int .u64 1000000000000000, .int .u64 10000000000000000, .int .u64 100000000000000000, .int .u64 1000000000000000000, .int .u64 10000000000000000000] t frozen
      | o => o).modify 2 fun
      | .cells _ t frozen => .cells (rngL.flatMap fun r => [.int .u8 r.1, .int .u8 r.2]).toArray t frozen
      | o => o).modify 1 fun
      | .cells _ t frozen => .cells (firstZ.map fun z => .int .u8 z).toArray t frozen
      | o => o).modify 4 fun
      | .cells _ t frozen => .cells #[.iface 98 (.pointer (some ⟨low, 0, none⟩))] t frozen
      | o => o).modify 3 fun
      | .cells _ t frozen => .cells #[.iface 98 (.pointer (some ⟨low + 1, 0, none⟩))] t frozen
      | o => o }
theorem laid_met (os : Os) (args : Array Value) : laidMetH Tryd.prog Rows.fnExactLexRow.laid ((laidWorld os).forCall (fun _ _ => 0) ⟨#[], args, []⟩).memory :=
  laidMetH_of_parts (laidMet_of_run3 8 (by kernel_rfl) (by kernel_rfl) (by kernel_rfl)) (by kernel_rfl)

/-- What the walk is told of a slice of bytes that came in. -/
def IsRow (k : IntKind) (w : World) (a : Option Addr) (len cap : Nat) (zs : List Int) : Prop :=
  (a = none ∧ len = 0 ∧ cap = 0 ∧ zs = []) ∨
  ∃ x, a = some x ∧ len ≤ cap ∧ cap ≤ maxLen ∧ zs.length = cap ∧ (∀ i, i < zs.length → w.cell? (x.add i) = some (.int k (zs.getD i 0))) ∧ ∀ n ∈ zs, (Lit.int k n).wf = true

set_option maxRecDepth 100000 in
theorem lifted (os : Os) (started : os.Started) (H : Type) (enc : TypeId × Value → H) :
    ReturnsInHanded {} Tryd.checked os 3 .any (fun w args => (Rows.fnExactLexSpec.pre enc Tryd.prog Tryd.f3 [] false w args ∧ laidMetH Tryd.prog Rows.fnExactLexRow.laid w) ∧ sizedMet enc Tryd.prog Tryd.f3 (OpenSpec.ofChange Rows.fnExactLexSpec) false w args)
      (Rows.fnExactLexSpec.post enc Tryd.prog Tryd.f3 false true false false) := by
  refine wrap_shaped (C := Tryd.checked) (X := fun w _ => laidMetH Tryd.prog Rows.fnExactLexRow.laid w) (fun _ _ _ hh h => h.of_heap hh) own started (by kernel_rfl) Tryd.func3
    (ChangeSpec.witness_at (enc := enc) (C := Tryd.checked) (os := os) (X := fun w _ => laidMetH Tryd.prog Rows.fnExactLexRow.laid w) false (laidWorld os) #[.slice none 0 0] 8 rfl (by kernel_rfl) (by kernel_rfl) (by kernel_rfl) (by kernel_rfl) (by kernel_rfl) (laid_met os _)) ?_
  intro W args ds gs before hval0 hW hL hsh
  have hval : ∀ (j : Nat) t v, Tryd.f3.params[j]? = some t → args[j]? = some v → Value.okWide Tryd.prog W .any 0 t v := hval0
  have hW' := hW
  obtain ⟨p, q, hA0, hV0, rfl, hfz, hnd⟩ := hW
  have hA : DataW.TrodAll enc Tryd.prog W 0 (fun _ => true) true Tryd.f3.params.toList args.toList ds p := hA0
  rw [Tryd.params3] at hA hval
  obtain ⟨v0, vs0, d0, ds0, p0, q0, hargs, rfl, rfl, h0, r0⟩ := trodAll_cons hA
  obtain ⟨rfl, rfl, rfl⟩ := trodAll_nil r0
  obtain rfl : args = #[v0] := by cases args; simp_all
  obtain ⟨rfl, rfl⟩ := trodVars_none hV0
  have hL' : laidMet Tryd.prog Rows.fnExactLexRow.laid W := hL
  have hE := env_in hL' hsh
  have k0' := h0
  have lt0 : ∀ x ∈ p0, x.block < W.heap.size := by obtain ⟨m, hm⟩ := k0'; exact DataW.trod_lt m _ _ _ hm
  obtain ⟨a0, l0, c0, rfl⟩ := okWide_slice Tryd.underlying22 (hval 0 22 v0 rfl rfl)
  obtain ⟨z0, w0⟩ : ∃ zs, IsRow .u8 W a0 l0 c0 zs := by
    obtain ⟨fuel, hf⟩ := h0
    rcases open_ints Tryd.underlying22 Tryd.underlying5 (by kernel_rfl) hf with ⟨hcs, _⟩ | ⟨x, l, c, zs, hcs, _, hl, hm, hz, _, hcell, hwz⟩
    · simp [Value.cells] at hcs
      obtain ⟨rfl, rfl, rfl⟩ := hcs
      exact ⟨[], .inl ⟨rfl, rfl, rfl, rfl⟩⟩
    · simp [Value.cells] at hcs
      obtain ⟨rfl, rfl, rfl⟩ := hcs
      exact ⟨zs, .inr ⟨_, rfl, hl, hm, by simpa using hz, hcell, hwz⟩⟩
  obtain ⟨ys0, hr0, hb0⟩ := By.reads_of w0
  clear hA0 hval0
  refine (By.lawLex a0 l0 c0 ys0 hb0 W hr0 hE).mono fun e W' ⟨he, hgr⟩ => ?_
  have bel := below_grown hgr
  subst he
  exact ⟨_, rfl, _, _, _, [], _, [], hW', trodAll_mk1 (shut_bool Tryd.underlying4 _), (trodAll_cons_mk (Below.trod laidOut (by kernel_rfl) (of_decide_eq_true (by kernel_rfl)) k0' bel lt0) trodAll_mk0), rfl, bel.frame _, fun h => by cases h⟩

theorem over : Rows.FnExactLexSaid :=
  OpenClaim.holds_of_wide 3 Tryd.f3 rfl rfl rfl rfl rfl rfl rfl ⟨rfl, rfl, rfl, rfl, rfl⟩ rfl rfl rfl rfl rfl (by kernel_rfl) Tryd.func3 (by kernel_rfl)
    (of_decide_eq_true (by kernel_rfl)) (by unfold Func.isWrapper; first | (rw [if_pos (by decide +kernel)]; kernel_rfl) | (rw [if_neg (by decide +kernel)]; exact ⟨rfl, rfl⟩))
    (fun os started H enc _ => lifted os started H enc)

/-- No parameter wants a stand-in. -/
theorem plain (f : FuncId) (fn : Func) (hf : Tryd.pinned.checked.prog.funcNamed "loop.example/g00293/laws.FnExactLex" = some f) (hfn : Tryd.pinned.checked.prog.funcs[f]? = some fn) :
    true = Tryd.pinned.checked.prog.looks [] ∧ ∀ (j : Nat) t, fn.params[j]? = some t → Tryd.pinned.checked.prog.wantsStandIn t = false := by
  obtain rfl : f = 3 := Option.some.inj ((show Tryd.prog.funcNamed "loop.example/g00293/laws.FnExactLex" = some 3 by kernel_rfl).symm.trans hf) |>.symm
  obtain rfl : fn = Tryd.f3 := (Option.some.inj (Tryd.func3.symm.trans hfn)).symm
  refine ⟨by kernel_rfl, fun j t ht => ?_⟩
  rw [Tryd.params3] at ht
  have ht' : t = 22 := by have := Array.mem_of_getElem? ht; simpa using this
  subst ht'
  exact (show Tryd.prog.wantsStandIn 22 = false by kernel_rfl)
end Go.Proofs.YtaecnhmegdeicaaDoor.fnExactLex

namespace Go.Proofs.YtaecnhmegdeicaaDoor
/-- The given statement: the tied card. -/
theorem fnExactLex_card : Rows.FnExactLexCardSaid :=
  Claim7.holds_tied_plain_at .later [] _ _ _ _ fnExactLex.over (fun _ h => by cases h) (by kernel_rfl) (fun _ h => by cases h) fnExactLex_row_tie rfl ⟨rfl, rfl⟩ (by kernel_rfl) rfl fnExactLex.plain (by kernel_rfl)
#print axioms fnExactLex_card
end Go.Proofs.YtaecnhmegdeicaaDoor
