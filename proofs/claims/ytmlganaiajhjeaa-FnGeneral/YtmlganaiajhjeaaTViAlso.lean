/-
  Several texts in one (UM, TVi). No statement is proved here.
-/
import Derived.Test.YtmlganaiajhjeaaTShapeAlso
import Derived.Test.YtmlganaiajhjeaaURAlso
import Derived.Maps.OwnSet
import Derived.Maps.OwnOps
import Derived.Test.YtmlganaiajhjeaaTVs
import Derived.Deep.DeepCutAuto
import Derived.Deep.CutBlock
namespace Go.Proofs.Ytmlganaiajhjeaa.By
open Go.RowKit
set_option linter.unusedVariables false

def heldR (v : Value) : Option (DataW Value × List MemPlace) := some (.held v, [])
theorem keyI : Maps.Keyed Try.prog 3 := Maps.int_keyed Try.underlying3
theorem zeroTy (w : World) : (zeroValue 25).run Try.prog w = .ok (.agg #[.int .i64 0, .int .i64 0, .slice none 0 0]) w := by kernel_rfl
def I64x (x : Int) : Prop := -9223372036854775808 ≤ x ∧ x ≤ 9223372036854775807
theorem keyX {x : Int} (h : I64x x) : keyOf Try.prog 3 (.int .i64 x) = some (.int .i64 x) := Maps.keyOf_int_mk Try.underlying3 (WalkArith.wf_i64 ⟨h.1, h.2⟩)
theorem isKeyX {x : Int} (h : I64x x) : WideAt.IsKeyLit (.int .i64 x) := by simp [WideAt.IsKeyLit]
theorem lit_ne {x y : Int} (h : x ≠ y) : (Lit.int .i64 x) ≠ (Lit.int .i64 y) := fun e => h (by injection e)
def updT (T : Int → Option Value) (x : Int) (o : Option Value) (y : Int) : Option Value := if y = x then o else T y
/-- Block m is a map of at most n entries: what each variable is bound to. -/
def MapIs (w : World) (m n : Nat) (T : Int → Option Value) : Prop :=
  ∃ D, w.ownsMap Try.prog 3 heldR m n D ∧ ∀ x, I64x x → Maps.has D (.int .i64 x) = (T x).isSome ∧ ∀ v, T x = some v → ∀ z, D.atKey (.int .i64 x) z = .held v
theorem MapIs.made (w : World) : MapIs (w.alloc (.map #[] 0)) w.heap.size 0 (fun _ => none) :=
  ⟨.map [], World.ownsMap_made w _ _ _, fun x _ => ⟨rfl, fun v h => by cases h⟩⟩
theorem MapIs.kept {w u : World} {m n : Nat} {T : Int → Option Value} {row : Option Nat} (h : MapIs w m n T) (hg : w.grownBy u row) (hne : some m ≠ row) : MapIs u m n T := by
  obtain ⟨D, h1, h2⟩ := h; exact ⟨D, h1.kept hg hne, h2⟩
theorem MapIs.of {w u : World} {m n : Nat} {T : Int → Option Value} (h : MapIs w m n T) (e : u.heap[m]? = w.heap[m]?) : MapIs u m n T := by
  obtain ⟨D, ⟨es, clock, hb, r⟩, h2⟩ := h; exact ⟨D, ⟨es, clock, e.trans hb, r⟩, h2⟩
theorem MapIs.isMap {w : World} {m n : Nat} {T : Int → Option Value} (h : MapIs w m n T) : ∃ es clock, w.heap[m]? = some (.map es clock) := by
  obtain ⟨D, ⟨es, clock, hb, r⟩, h2⟩ := h; exact ⟨es, clock, hb⟩
theorem MapIs.lt {w : World} {m n : Nat} {T : Int → Option Value} (h : MapIs w m n T) : m < w.heap.size := by
  obtain ⟨D, h1, h2⟩ := h; exact h1.lt
abbrev zeroTyV : Value := .agg #[.int .i64 0, .int .i64 0, .slice none 0 0]
theorem MapIs.read {w : World} {m n : Nat} {T : Int → Option Value} {D : DataW Value} (h : ∀ x, I64x x → Maps.has D (.int .i64 x) = (T x).isSome ∧ ∀ v, T x = some v → ∀ z, D.atKey (.int .i64 x) z = .held v) {x : Int} (hx : I64x x) {v : Value} {ps : List MemPlace} (hv : heldR v = some (D.atKey (.int .i64 x) (.held zeroTyV), ps)) : v = (T x).getD zeroTyV := by
  obtain ⟨h1, h2⟩ := h x hx
  simp only [heldR, Option.some.injEq, Prod.mk.injEq] at hv
  cases hT : T x with
  | none =>
    rw [hT] at h1
    rw [Maps.atKey_of_not_has h1] at hv
    have := hv.1
    injection this with e
  | some y =>
    rw [h2 y hT] at hv
    have := hv.1
    injection this with e
theorem MapIs.look_ok {w : World} {m n : Nat} {T : Int → Option Value} (h : MapIs w m n T) {x : Int} (hx : I64x x) : (Instr.lookup 110 (.map (some m)) (.int .i64 x) true).run Try.prog w = .ok (.tuple #[(T x).getD zeroTyV, .bool (T x).isSome]) w := by
  obtain ⟨D, h1, h2⟩ := h
  obtain ⟨v, ps, hr, hv⟩ := h1.look_ok keyI Try.underlying110 (zeroTy w) (zd := .held zeroTyV) (zp := []) rfl (keyX hx)
  rw [hr, MapIs.read (w := w) (m := m) (n := n) h2 hx hv, (h2 x hx).1]
theorem MapIs.look {w : World} {m n : Nat} {T : Int → Option Value} (h : MapIs w m n T) {x : Int} (hx : I64x x) : (Instr.lookup 110 (.map (some m)) (.int .i64 x) false).run Try.prog w = .ok ((T x).getD zeroTyV) w := by
  obtain ⟨D, h1, h2⟩ := h
  obtain ⟨v, ps, hr, hv⟩ := h1.lookup keyI Try.underlying110 (zeroTy w) (zd := .held zeroTyV) (zp := []) rfl (keyX hx)
  rw [hr, MapIs.read (w := w) (m := m) (n := n) h2 hx hv]
theorem MapIs.put {w : World} {m n : Nat} {T : Int → Option Value} (h : MapIs w m n T) {x : Int} (hx : I64x x) (hn : n < 1000000) (v : Value) : ∃ w', (Instr.mapUpdate 110 (.map (some m)) (.int .i64 x) v).run Try.prog w = .ok () w' ∧ MapIs w' m (n + 1) (updT T x (some v)) ∧ w.grownBy w' (some m) := by
  obtain ⟨D, h1, h2⟩ := h
  obtain ⟨w', hr, h3, h4⟩ := h1.update keyI Try.underlying110 (by unfold maxLen; omega) (keyX hx) (val := v) (d := .held v) (ps := []) rfl
  refine ⟨w', hr, ⟨_, h3, fun y hy => ?_⟩, h4⟩
  have hD := h1.isMap
  by_cases hxy : y = x
  · subst hxy
    refine ⟨by rw [Maps.has_put_same hD (isKeyX hx)]; simp [updT], fun u hu z => ?_⟩
    rw [show updT T y (some v) y = some v from if_pos rfl] at hu
    cases hu
    exact Maps.atKey_put_same hD (isKeyX hx) _ _
  · refine ⟨by rw [Maps.has_put_other (lit_ne hxy), (h2 y hy).1]; simp [updT, hxy], fun u hu z => ?_⟩
    simp only [updT, if_neg hxy] at hu
    rw [Maps.atKey_put_other (lit_ne hxy)]
    exact (h2 y hy).2 u hu z
theorem MapIs.del {w : World} {m n : Nat} {T : Int → Option Value} (h : MapIs w m n T) {x : Int} (hx : I64x x) (ty : TypeId) : ∃ w', (Builtin.delete_ #[110, 3] ty #[.map (some m), .int .i64 x]).run Try.prog w = .ok (.tuple #[]) w' ∧ MapIs w' m n (updT T x none) ∧ w.grownBy w' (some m) := by
  obtain ⟨D, h1, h2⟩ := h
  obtain ⟨w', hr, h3, h4⟩ := h1.drop keyI Try.underlying110 (keyX hx) ty
  refine ⟨w', hr, ⟨_, h3, fun y hy => ?_⟩, h4.grown⟩
  by_cases hxy : y = x
  · subst hxy
    refine ⟨by rw [Maps.has_del_same]; simp [updT], fun u hu z => ?_⟩
    simp [updT] at hu
  · refine ⟨by rw [Maps.has_del_other (lit_ne hxy), (h2 y hy).1]; simp [updT, hxy], fun u hu z => ?_⟩
    simp only [updT, if_neg hxy] at hu
    rw [Maps.atKey_del_other (lit_ne hxy)]
    exact (h2 y hy).2 u hu z
/-- 'm[k] = v' at the operation. -/
theorem wp_mapPut {w : World} {o : Oper} {ac : Act} {K : Act → World → Prop} {Q : Exit → Act → World → Prop} (mo xo vo : Operand) (ho : o.op = Op.mapUpdate 110 mo xo vo)
    {m n : Nat} {T : Int → Option Value} (h : MapIs w m n T) {x : Int} (hx : I64x x) (hn : n < 1000000) (v : Value) (e1 : ac.eval mo = .map (some m)) (e2 : ac.eval xo = .int .i64 x) (e3 : ac.eval vo = v)
    (H : ∀ w', MapIs w' m (n + 1) (updT T x (some v)) → w.grownBy w' (some m) → K (ac.put o.dst undef) w') : Oper.wp Try.prog o ac w K Q := by
  obtain ⟨w', hr, h1, h2⟩ := h.put hx hn v
  unfold Oper.wp
  simp [execOp, ho, e1, e2, e3, hr, Result.andThen]
  exact H w' h1 h2
theorem wpList_mapDel {w : World} {ops : Array Oper} {rest : List Oper} {o : Oper} {ac : Act} {Q : Exit → Act → World → Prop} (hg : o.guard = none) (mo xo : Operand) (ho : o.op = Op.call { callee := Callee.builtin Builtin.delete, args := #[mo, xo], argTypes := #[110, 3] })
    {m n : Nat} {T : Int → Option Value} (h : MapIs w m n T) {x : Int} (hx : I64x x) (e1 : ac.eval mo = .map (some m)) (e2 : ac.eval xo = .int .i64 x)
    (H : ∀ w', MapIs w' m n (updT T x none) → w.grownBy w' (some m) → wpList Try.prog ops Q rest (ac.put o.dst (.tuple #[])) w') : wpList Try.prog ops Q (o :: rest) ac w := by
  refine wpList_plain hg fun K' hK' => ?_
  obtain ⟨w', hr, h1, h2⟩ := h.del hx o.type
  unfold Oper.wp
  simp [execOp, ho, resolve, invoke, builtin, e1, e2, hr, Result.andThen]
  exact hK' _ _ (H w' h1 h2)
end Go.Proofs.Ytmlganaiajhjeaa.By

namespace Go.Proofs.Ytmlganaiajhjeaa.By
open Go.RowKit
set_option linter.unusedVariables false
set_option linter.unusedSimpArgs false

set_option maxRecDepth 8000 in
set_option maxHeartbeats 2000000 in
theorem addVarsT (B : Nat) (m : Nat) : ∀ (d : F) (k n : Int) (a : Option Addr) (l c : Nat) (v : Value) (zs : List Int) (W0 w : World), d.size < m → SlF W0 a l d → B = W0.heap.size → Below B W0 w → w.ownsRow B 3 1 v zs.length (valsI zs) → zs.length + (1 + d.size) ≤ 100000 →
    Calls Try.prog 46 #[v, .agg #[.int .i64 k, .int .i64 n, .slice a l c]] w fun e u => ∃ v', e = .returned v' ∧ u.ownsRow B 3 1 v' (zs ++ vT k n d).length (valsI (zs ++ vT k n d)) ∧ FrI B w u := by
  induction m with
  | zero => intro d k n a l c v zs W0 w hm; exact absurd hm (Nat.not_lt_zero _)
  | succ m ih =>
    intro d k n a l c v zs W0 w hm h hW hb ho hlen
    subst hW
    obtain ⟨i0, hi, hz0, hz1, hz2⟩ := info_parts infoV
    have hfl := h.1
    have hl := h.2.1
    have hB := hb.size
    have g0 := World.grownBy_alloc w (.cells #[.int .i64 k, .int .i64 n, .slice a l c] 25) none
    have b0 := heap_alloc_new w (.cells #[.int .i64 k, .int .i64 n, .slice a l c] 25)
    have FX : Hid (FrI W0.heap.size w (w.alloc (.cells #[.int .i64 k, .int .i64 n, .slice a l c] 25)) ∧ (w.alloc (.cells #[.int .i64 k, .int .i64 n, .slice a l c] 25)).heap[w.heap.size]? = some (Obj.cells #[.int .i64 k, .int .i64 n, .slice a l c] 25) ∧ (w.alloc (.cells #[.int .i64 k, .int .i64 n, .slice a l c] 25)).ownsRow W0.heap.size 3 1 v zs.length (valsI zs) ∧ W0.heap.size ≤ (w.alloc (.cells #[.int .i64 k, .int .i64 n, .slice a l c] 25)).heap.size) := ⟨FrI.grown g0 hB, b0, ho.alloc _, Nat.le_trans hB g0.size⟩
    have CS : Hid _ := shpT k (w.alloc (.cells #[.int .i64 k, .int .i64 n, .slice a l c] 25))
    have HS : Hid (SlF W0 a l d ∧ Below W0.heap.size W0 w) := ⟨h, hb⟩
    have IH : Hid _ := ih
    clear ih h hb ho g0 b0
    go_enter Try.func46, Try.ntmps46
    go_wp2_with fail
    refine Calls.mono CS.out ?_
    rintro e w2 ⟨rfl, hg⟩
    have FZ : Hid (FrI W0.heap.size w w2 ∧ w2.heap[w.heap.size]? = some (Obj.cells #[.int .i64 k, .int .i64 n, .slice a l c] 25) ∧ w2.ownsRow W0.heap.size 3 1 v zs.length (valsI zs) ∧ W0.heap.size ≤ w2.heap.size) := ⟨FX.out.1.trans (FrI.grown hg FX.out.2.2.2), (hg.block _ (lt_of_block FX.out.2.1) (by simp)).trans FX.out.2.1, FX.out.2.2.1.kept hg (Classical.em _), Nat.le_trans FX.out.2.2.2 hg.size⟩
    clear hg CS FX
    generalize ep : w.heap.size = q at *
    obtain ⟨⟨x0, x1, x2⟩, -⟩ := three FZ.out.2.1
    simp only []
    by_cases h7 : k = 7
    · subst h7
      have E : shpV 7 = .iface 106 (.agg #[]) := rfl
      rw [E]
      have t1 := asVarVar
      have EV : Hid (zs ++ vT 7 n d = zs ++ [n]) := rfl
      have ga := World.grownBy_alloc w2 (.cells #[.int .i64 n] 3) none
      have S2 : Hid ((w2.alloc (.cells #[.int .i64 n] 3)).ownsRow W0.heap.size 3 1 v zs.length (valsI zs) ∧ ReadsI (w2.alloc (.cells #[.int .i64 n] 3)) (some ⟨w2.heap.size, 0, none⟩) 1 [n] ∧ W0.heap.size ≤ (w2.alloc (.cells #[.int .i64 n] 3)).heap.size ∧ FrI W0.heap.size w (w2.alloc (.cells #[.int .i64 n] 3))) := ⟨FZ.out.2.2.1.alloc _, readsOne w2 n 3, Nat.le_trans FZ.out.2.2.2 ga.size, FZ.out.1.trans (FrI.grown ga FZ.out.2.2.2)⟩
      clear ga E IH HS
      go_wp2_with (at_builtin; go_must (refine wpList_appI rfl (.tmp 13) (.tmp 16) 33 rfl W0.heap.size i0 (.int .i64 0) Try.underlying33 hi hz0 hz1 hz2 rfl v zs.length zs rfl S2.out.1 (some ⟨w2.heap.size, 0, none⟩) 1 1 [n] rfl S2.out.2.1 (by simp) (by omega) S2.out.2.2.1 ?_); intro v3 w3 o3 g3 n3)
      have FF : Hid (w3.ownsRow W0.heap.size 3 1 v3 (zs ++ [n]).length (valsI (zs ++ [n])) ∧ FrI W0.heap.size w w3) := ⟨by simpa using o3, S2.out.2.2.2.trans (FrI.own g3 S2.out.1 S2.out.2.2.1)⟩
      clear o3 g3 n3 S2 FZ
      go_ret
      exact ⟨v3, rfl, by rw [EV.out]; exact FF.out.1, FF.out.2⟩
    · have t1 := notVar h7
      generalize shpV k = sv at *
      have EV : Hid (vT k n d = varsF d) := by show _ = _; unfold vT; rw [if_neg h7]
      rcases HS.out.1.cases with ⟨rfl, rfl⟩ | ⟨b, o, rfl, hin, -, hpos⟩
      · have FF : Hid (zs ++ vT k n .nil = zs) := by show _ = _; rw [EV.out]; simp [varsF]
        clear IH HS
        go_wp2
        refine wp_loop_rounds 1 ?_
        rw [rounds_succ]
        go_wp2
        go_ret
        exact ⟨v, rfl, by rw [FF.out]; exact FZ.out.2.2.1, FZ.out.1⟩
      have IN : Hid (InF W0 d b o) := hin
      have HB : Hid (Below W0.heap.size W0 w) := HS.out.2
      clear hin HS
      go_wp2
      clear x0 x1 x2
      go_loopw [0, 21] (fun v i wr => ∃ (j : Nat) (R : F) (pre : List Int), j ≤ l ∧ i = .int .i64 j ∧ R.len + j = l ∧ R.size ≤ d.size ∧ zs.length + pre.length + R.size ≤ 100000 ∧ Hid (InF W0 R b (o + j * 3)) ∧ Hid (wr.ownsRow W0.heap.size 3 1 v (zs ++ pre).length (valsI (zs ++ pre))) ∧ Hid (pre ++ varsF R = varsF d) ∧ Hid (FrI W0.heap.size w wr ∧ W0.heap.size ≤ wr.heap.size)) (fun _ i _ => l - (intOf i).toNat)
      case atStart => exact ⟨0, d, [], Nat.zero_le _, rfl, by omega, Nat.le_refl _, by simp; omega, by simpa using IN, (by show World.ownsRow _ _ _ _ _ _ _; simpa using FZ.out.2.2.1), rfl, FZ.out.1, FZ.out.2.2.2⟩
      case round =>
        clear FZ IN
        obtain ⟨j, R, pre, hj, rfl, hRl, hRs, hus, hR, hA, hP, hFr⟩ := hrel
        by_cases hlt : j < l
        · obtain ⟨q1, hq1⟩ : ∃ q, R.len = q + 1 := ⟨R.len - 1, by omega⟩
          obtain ⟨kk, nn, d', R', rfl, hR'⟩ := F.cons_of_len hq1
          have hbw := HB.out.trans hFr.out.1.below
          obtain ⟨a', l', c', -, -, -, hd, hR2⟩ := hR.out.out
          obtain ⟨a2, l2, c2, z0, z1, z2, hd2, -⟩ := (hR.out.belowV hbw).out
          have e3 : o + j * 3 + 3 = o + (j + 1) * 3 := by omega
          rw [e3] at hR2
          have hds : d'.size < m := by simp only [F.size] at hRs hm; omega
          have hRs' : R'.size ≤ d.size := by simp only [F.size] at hRs; omega
          have hsz : (F.cons kk nn d' R').size = 1 + d'.size + R'.size := rfl
          rw [hsz] at hus
          obtain ⟨a3, l3, c3, w0', w1', w2', hd3, -⟩ := hR.out.out
          have hlt0 := block_lt_of_cell w2'
          have e5 := (hbw.cell (p := ⟨b, o + j * 3 + 2, none⟩) hlt0).trans w2'
          rw [z2] at e5
          injection e5 with e5
          injection e5 with e6 e7 e8
          subst e6 e7 e8
          have CC : Hid _ := IH.out d' kk nn a2 l2 c2 u0 (zs ++ pre) W0 _ hds hd3 rfl (hbw.alloc hbw.size (.cells #[.int .i64 kk, .int .i64 nn, .slice a2 l2 c2] 25)) (hA.out.alloc _) (by rw [List.length_append]; omega)
          have h2 := vT_len kk nn d'
          have FX : Hid (InF W0 R' b (o + (j + 1) * 3) ∧ zs.length + (pre ++ vT kk nn d').length + R'.size ≤ 100000 ∧ (pre ++ vT kk nn d') ++ varsF R' = varsF d) := ⟨hR2, by rw [List.length_append]; omega, by rw [← hP.out, List.append_assoc]; rfl⟩
          clear hR hR2 hd hd2 hd3 hP hbw w0' w1' w2' IH h2 hsz hus hRs
          go_wp2_with fail
          refine Calls.mono CC.out ?_
          rintro e u ⟨v', rfl, hA2, hF2⟩
          have AC : Hid (u.ownsRow W0.heap.size 3 1 v' (zs ++ (pre ++ vT kk nn d')).length (valsI (zs ++ (pre ++ vT kk nn d')))) := by show World.ownsRow _ _ _ _ _ _ _; rw [← List.append_assoc]; exact hA2
          have ga := World.grownBy_alloc wr (.cells #[.int .i64 kk, .int .i64 nn, .slice a2 l2 c2] 25) none
          have hF3 := (FrI.grown ga hFr.out.2).trans hF2
          have FR : Hid (FrI W0.heap.size w u ∧ W0.heap.size ≤ u.heap.size) := ⟨hFr.out.1.trans hF3, Nat.le_trans hFr.out.2 hF3.below.size⟩
          clear ga hF3 hA2 hF2 CC z0 z1 z2 hFr hA
          simp only []
          go_wp2
          go_roundw
          case rel => exact ⟨j + 1, R', pre ++ vT kk nn d', by omega, by go_num, by omega, hRs', FX.out.2.1, FX.out.1, AC, FX.out.2.2, FR⟩
          case measure => simp [intOf]; omega
        · obtain rfl : j = l := by omega
          obtain rfl : R = .nil := F.nil_of_len (by omega)
          have FIN : Hid (wr.ownsRow W0.heap.size 3 1 u0 (zs ++ vT k n d).length (valsI (zs ++ vT k n d))) := by
            show World.ownsRow _ _ _ _ _ _ _
            have e := hP.out
            simp only [varsF, List.append_nil] at e
            rw [EV.out, ← e]; exact hA.out
          clear hP hA IH
          go_wp2
          go_ret
          exact ⟨_, rfl, FIN.out, hFr.out.1⟩
end Go.Proofs.Ytmlganaiajhjeaa.By
