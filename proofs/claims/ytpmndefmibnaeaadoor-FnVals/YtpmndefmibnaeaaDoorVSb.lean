/-
  Rows of bytes that are our own: compared, marked, held, made longer. No statement is proved here.
-/
import Derived.Test.YtpmndefmibnaeaaDoorTMark
import Derived.Test.YtpmndefmibnaeaaDoorHelp
import Derived.Lib.AppendStr
import Derived.Lib.OthersKept
import Derived.Lib.UnsafeStr
namespace Go.Proofs.YtpmndefmibnaeaaDoor.By
open Go.RowKit
set_option linter.unusedVariables false
set_option linter.unusedSimpArgs false

theorem InF.belowS {w w' : World} {f : F} {b off : Nat} (h : InF w f b off) (hb : Below w.heap.size w w') : InF w' f b off :=
  h.cells fun p v hv => by rw [hb.cell (p := p) (block_lt_of_cell hv)]; exact hv
theorem grown_of_belowS {w w' : World} (h : Below w.heap.size w w') : w.grownBy w' none := ⟨h.os, h.tape, h.output, h.size, fun k hk _ => h.block k hk⟩
theorem own_rowS {w : World} {B g cap n : Nat} {zs : List Int} (h : Row w g cap zs) (hl : zs.length = n) (hB : B ≤ g) (hm : cap ≤ maxLen) : w.ownsRow B 5 1 (.slice (some ⟨g, 0, none⟩) n cap) n (vals zs) := by
  obtain ⟨cur, hc, hs, ht, hle⟩ := h
  exact ⟨by simp [vals, hl], .inr ⟨g, cap, cur, rfl, hB, hc, by omega, hm, by omega, by rw [← hl]; simpa using ht⟩⟩
/-- Blocks below B have not turned, nor any that is no row of bytes. -/
structure FrS (B : Nat) (w u : World) : Prop where
  below : Below B w u
  other : ∀ (i : Nat) (cur : Array Value) (t : TypeId) (r : Nat × Nat), w.heap[i]? = some (.cells cur t r) → t ≠ 5 → u.heap[i]? = some (.cells cur t r)
theorem FrS.refl (B : Nat) (w : World) : FrS B w w := ⟨Below.refl _ _, fun _ _ _ _ h _ => h⟩
theorem FrS.trans {B : Nat} {a b c : World} (h : FrS B a b) (k : FrS B b c) : FrS B a c := ⟨h.below.trans k.below, fun i cur t r hi ht => k.other i cur t r (h.other i cur t r hi ht) ht⟩
theorem FrS.grown {B : Nat} {w u : World} (h : w.grownBy u none) (hB : B ≤ w.heap.size) : FrS B w u :=
  ⟨(Below.refl B w).grown h hB (fun k hk => by cases hk), fun i cur t r hi _ => (h.block i (lt_of_block hi) (by simp)).trans hi⟩
theorem FrS.own {B N : Nat} {w u : World} {v : Value} {xs : List Value} (h : w.grownBy u v.ownBlock) (ho : w.ownsRow B 5 1 v N xs) (hB : B ≤ w.heap.size) : FrS B w u := by
  refine ⟨(Below.refl B w).grown h hB (fun k hk => (ho.lt k hk).1), fun i cur t r hi ht => (h.block i (lt_of_block hi) ?_).trans hi⟩
  rcases ho.2 with ⟨rfl, _⟩ | ⟨g, cap, cur', rfl, _, hg, _⟩
  · simp [Value.ownBlock]
  · simp only [Value.ownBlock]
    intro e
    injection e with e
    subst e
    rw [hg] at hi
    injection hi with hi
    injection hi with _ h2
    exact ht h2.symm
theorem FrS.three {B g : Nat} {w u : World} {t : TypeId} {c0 c1 c2 : Value} (f : FrS B w u) (h : w.heap[g]? = some (.cells #[c0, c1, c2] t (0, 0))) (ht : t ≠ 5) : u.heap[g]? = some (.cells #[c0, c1, c2] t (0, 0)) := f.other _ _ _ _ h ht

/-- A row of bytes of our own, from block B on, or none. -/
def OwS (B : Nat) (w : World) (a : Option Addr) (n c : Nat) (zs : List Int) : Prop := w.ownsRow B 5 1 (.slice a n c) n (vals zs) ∧ zs.length = n
theorem OwS.reads {B n c : Nat} {w : World} {a : Option Addr} {zs : List Int} (h : OwS B w a n c zs) : Reads w a n zs := by
  obtain ⟨h, hl⟩ := h
  rcases h.2 with ⟨_, h0⟩ | ⟨g, cap, cur, e, _, hg, hn, _, hs, ht⟩
  · exact ⟨hl, .inl h0⟩
  · injection e with e1 e2 e3
    subst e1
    have hr : Row w g cap zs := ⟨cur, hg, by omega, by rw [hl]; simpa using ht, by omega⟩
    exact hr.reads' hl
theorem OwS.kept {B n c : Nat} {w u : World} {a : Option Addr} {zs : List Int} (h : OwS B w a n c zs) (hg : w.grownBy u none) : OwS B u a n c zs := ⟨h.1.kept hg (Classical.em _), h.2⟩
theorem OwS.of {B n c : Nat} {w u : World} {a : Option Addr} {zs : List Int} (h : OwS B w a n c zs) (hg : ∀ g cur, w.heap[g]? = some (.cells cur 5 (0, 0)) → some g = (Value.slice a n c).ownBlock → u.heap[g]? = w.heap[g]?) : OwS B u a n c zs := by
  obtain ⟨⟨h1, h⟩, hl⟩ := h
  refine ⟨⟨h1, ?_⟩, hl⟩
  rcases h with h | ⟨g, cap, cur, e, hB, hc, r⟩
  · exact .inl h
  · have e2 := hg g cur hc (by rw [e]; rfl)
    exact .inr ⟨g, cap, cur, e, hB, by rw [e2]; exact hc, r⟩
theorem OwS.mono {B B' n c : Nat} {w : World} {a : Option Addr} {zs : List Int} (h : OwS B w a n c zs) (hB : B' ≤ B) : OwS B' w a n c zs := by
  obtain ⟨⟨h1, h⟩, hl⟩ := h
  refine ⟨⟨h1, ?_⟩, hl⟩
  rcases h with h | ⟨g, cap, cur, e, hb, r⟩
  · exact .inl h
  · exact .inr ⟨g, cap, cur, e, Nat.le_trans hB hb, r⟩
theorem OwS.lt {B n c : Nat} {w : World} {a : Option Addr} {zs : List Int} (h : OwS B w a n c zs) : ∀ g, (Value.slice a n c).ownBlock = some g → B ≤ g ∧ g < w.heap.size := fun g hg => h.1.lt g hg
theorem OwS.nil (B : Nat) (w : World) : OwS B w none 0 0 [] := ⟨⟨rfl, .inl ⟨rfl, rfl⟩⟩, rfl⟩

set_option maxHeartbeats 400000 in
theorem markNilS (k0 : Int) (w : World) : Calls Tryd.prog 16 #[.slice none 0 0, .int .i64 k0] w fun e u => e = .returned (.int .i64 k0) ∧ w.grownBy u none := by
  go_enter Tryd.func16, Tryd.ntmps16
  go_wp2
  refine wp_loop_rounds 1 ?_
  rw [rounds_succ]
  go_wp2
  go_ret
  exact ⟨rfl, World.grownBy.refl _ _⟩

theorem markBS (B n c : Nat) (a : Option Addr) (zs : List Int) (k0 : Int) (w : World) (h : OwS B w a n c zs) (hn : n ≤ 4194304) (hk0 : 0 ≤ k0) (hk1 : k0 ≤ 4194304) :
    Calls Tryd.prog 16 #[.slice a n c, .int .i64 k0] w fun e u => e = .returned (.int .i64 (k0 + n)) ∧ w.grownBy u (Value.slice a n c).ownBlock ∧ OwS B u a n c (marks k0 n) := by
  obtain ⟨⟨h1, h2⟩, hl⟩ := h
  rcases h2 with ⟨e, h0⟩ | ⟨g, cap, cur, e, hB, hc, hn', hm, hs, ht⟩
  · injection e with e1 e2 e3
    subst e1 e2 e3
    refine (markNilS k0 w).mono fun e u ⟨he, hg⟩ => ⟨by simpa using he, hg, ?_⟩
    have : marks k0 0 = [] := by simp [marks]
    rw [this]; exact OwS.nil _ _
  · injection e with e1 e2 e3
    subst e1 e3
    have hr : Row w g c zs := ⟨cur, hc, by omega, by rw [hl]; simpa using ht, by omega⟩
    refine (markT g n c zs k0 w hr hl hn hk0 hk1).mono fun e u ⟨he, hg, _, hr'⟩ => ⟨he, hg, ?_, marks_len _ _⟩
    exact own_rowS hr' (marks_len _ _) hB hm

theorem eqBS (a a' : Option Addr) (n c c' : Nat) (zs : List Int) (w : World) (h : Reads w a n zs) (h' : Reads w a' n zs) (hn : n ≤ 4194304) :
    Calls Tryd.prog 11 #[.slice a n c, .slice a' n c'] w fun e u => e = .returned (.bool true) ∧ w.grownBy u none :=
  (eqT a a' n c c' zs w h h' hn).mono fun e u ⟨he, hq⟩ => ⟨he, quiet hq⟩
theorem heldBS (a : Option Addr) (n c : Nat) (k0 : Int) (w : World) (h : Reads w a n (marks k0 n)) (hn : n ≤ 4194304) (hk0 : 0 ≤ k0) (hk1 : k0 ≤ 4194304) :
    Calls Tryd.prog 17 #[.slice a n c, .int .i64 k0] w fun e u => e = .returned (.int .i64 (k0 + n)) ∧ w.grownBy u none :=
  (heldT a n c k0 w h hn hk0 hk1).mono fun e u ⟨he, hq⟩ => ⟨he, quiet hq⟩
/-- A block that is no row of bytes is far from one that is. -/
theorem OwS.box {B n c p : Nat} {w u : World} {a : Option Addr} {zs : List Int} {cur : Array Value} {t : TypeId} {r : Nat × Nat} (h : OwS B w a n c zs) (hg : w.grownBy u (Value.slice a n c).ownBlock) (hp : w.heap[p]? = some (.cells cur t r)) (ht : t ≠ 5) : u.heap[p]? = some (.cells cur t r) := by
  refine (hg.block p (lt_of_block hp) (fun e => ?_)).trans hp
  rcases h.1.2 with ⟨e1, _⟩ | ⟨g, cap, cur', e1, _, hc, _⟩
  · rw [e1] at e; cases e
  · rw [e1] at e
    injection e with e
    subst e
    rw [hc] at hp
    injection hp with hp
    injection hp with _ h2
    exact ht h2.symm
theorem OwS.grown {A B n c : Nat} {v w u : World} {a : Option Addr} {zs : List Int} (h : OwS B w a n c zs) (hg : w.grownBy u (Value.slice a n c).ownBlock) (h0 : v.grownBy w none) (hA : v.heap.size ≤ B) : v.grownBy u none :=
  ⟨hg.os.trans h0.os, hg.tape.trans h0.tape, hg.output.trans h0.output, Nat.le_trans h0.size hg.size, fun i hi _ => (hg.block i (Nat.lt_of_lt_of_le hi h0.size) (fun e => by have := (h.lt i e.symm).1; omega)).trans (h0.block i hi (by simp))⟩

theorem infoS : (Tryd.prog.info? 5).map (fun i => (i.zero, i.size, i.bytes)) = some (some (.int .u8 0), 1, 1) := by kernel_rfl
theorem newsS {w : World} {b off n : Nat} {zs : List Int} (hl : zs.length = n) (hc : ∀ i, i < n → w.cell? ⟨b, off + i, none⟩ = some (.int .u8 (zs.getD i 0))) : ∀ j u, (vals zs)[j]? = some u → w.cell? ((⟨b, off, none⟩ : Addr).add j) = some u := by
  intro j u hu
  have hj : j < zs.length := by
    have := (List.getElem?_eq_some_iff.1 hu).1; simpa [vals] using this
  have e : (vals zs)[j]? = some (.int .u8 (zs.getD j 0)) := by simp [vals, hj]
  rw [e] at hu
  rw [Go.WideShapes.add_plain, hc j (by omega), hu]
theorem oneS (zs : List Int) : ∀ u ∈ vals zs, u.oneCell' = true := by
  intro u hu
  simp only [vals, List.mem_map] at hu
  obtain ⟨x, _, rfl⟩ := hu
  rfl
theorem run_appB {P : Program} {w : World} (t ty : TypeId) (B : Nat) (i : TypeInfo) (z : Value) (ht : P.underlying t = some (.slice 5)) (hi : P.info? 5 = some i) (hz : i.zero = some z)
    (hsize : i.size = 1) (hby : i.bytes = 1) (hzs : z.cells.size = 1) (v : Value) (n : Nat) (zs : List Int) (hown : w.ownsRow B 5 1 v n (vals zs)) (src : Option Addr) (m c : Nat) (ys : List Int)
    (hr : Reads w src m ys) (hn : src = none → c = 0) (hm : n + m ≤ 1048576) (hB : B ≤ w.heap.size) :
    ∃ v' w', (Builtin.append_ #[t, t] ty #[v, .slice src m c]).run P w = .ok v' w' ∧ w'.ownsRow B 5 1 v' (n + m) (vals (zs ++ ys)) ∧ w.grownBy w' v.ownBlock ∧ (v' = .slice none 0 0 ↔ v = .slice none 0 0 ∧ m = 0) := by
  obtain ⟨hl, hr⟩ := hr
  cases src with
  | none =>
    obtain rfl := hn rfl
    obtain rfl : m = 0 := by
      rcases hr with h | ⟨_, _, h, _⟩
      · exact h
      · cases h
    obtain rfl : ys = [] := List.eq_nil_of_length_eq_zero (by omega)
    exact ⟨v, w, run_append_owned_none (P := P) (w := w) B t ty 5 i 1 ht hi v n _ hown, by simpa using hown, World.grownBy.refl _ _, by simp⟩
  | some ad =>
    have hnews : ∀ j u, (vals ys)[j]? = some u → w.cell? (ad.add j) = some u := by
      rcases hr with h | ⟨b, off, h, hc⟩
      · have : ys = [] := List.eq_nil_of_length_eq_zero (by omega)
        subst this
        intro j u hu; simp [vals] at hu
      · cases h; exact newsS hl hc
    obtain ⟨v', w', h1, h2, h3, h4⟩ := run_append_own (P := P) w B t ty 5 i z 1 1 ht hi hz hsize hby hzs (by decide) v n (vals zs) hown ad m c (vals ys) (by simp [vals, hl]) hnews (oneS ys) (by simp [maxLen]; omega) (by omega) hB
    exact ⟨v', w', h1, by simpa [vals] using h2, h3, h4⟩
theorem wpList_appB {P : Program} {w : World} {ops : Array Oper} {rest : List Oper} {o : Oper} {ac : Act} {Q : Exit → Act → World → Prop}
    (hg : o.guard = none) (s x : Operand) (t : TypeId) (ho : o.op = .call { callee := .builtin .append, args := #[s, x], argTypes := #[t, t] })
    (B : Nat) (i : TypeInfo) (z : Value) (ht : P.underlying t = some (.slice 5)) (hi : P.info? 5 = some i) (hz : i.zero = some z) (hsize : i.size = 1) (hby : i.bytes = 1) (hzs : z.cells.size = 1)
    (v : Value) (n : Nat) (zs : List Int) (hs : ac.eval s = v) (hown : w.ownsRow B 5 1 v n (vals zs)) (src : Option Addr) (m c : Nat) (ys : List Int) (hx : ac.eval x = .slice src m c) (hr : Reads w src m ys) (hn : src = none → c = 0) (hm : n + m ≤ 1048576) (hB : B ≤ w.heap.size)
    (H : ∀ v' w', w'.ownsRow B 5 1 v' (n + m) (vals (zs ++ ys)) → w.grownBy w' v.ownBlock → (v' = .slice none 0 0 ↔ v = .slice none 0 0 ∧ m = 0) → wpList P ops Q rest (ac.put o.dst v') w') :
    wpList P ops Q (o :: rest) ac w := by
  refine wpList_plain hg fun K hK => ?_
  obtain ⟨v', w', hr', h2, h3, h4⟩ := run_appB (P := P) (w := w) t o.type B i z ht hi hz hsize hby hzs v n zs hown src m c ys hr hn hm hB
  unfold Oper.wp execOp
  simp only [ho, resolve, invoke, builtin, Sem.run_bind, Sem.run_pure, Result.andThen_ok, List.map_toArray, List.map_cons, List.map_nil, hs, hx, hr']
  exact hK _ _ (H v' w' h2 h3 h4)
/-- Bytes as ints. -/
def ofB (l : List UInt8) : List Int := l.map fun b => (b.toNat : Int)
theorem byteCells_vals (l : List UInt8) : Lib.byteCells l = vals (ofB l) := by simp [Lib.byteCells, vals, ofB, Function.comp_def]
theorem strCells_vals (s : ByteArray) : Lib.strCells s = vals (ofB s.data.toList) := by rw [Lib.strCells_eq, byteCells_vals]
theorem ofB_len (l : List UInt8) : (ofB l).length = l.length := by simp [ofB]
theorem ofB_app (a b : List UInt8) : ofB (a ++ b) = ofB a ++ ofB b := by simp [ofB]
theorem wp_appB {P : Program} {w : World} {o : Oper} {ac : Act} {K : Act → World → Prop} {Q : Exit → Act → World → Prop}
    (s x : Operand) (t : TypeId) (ho : o.op = .call { callee := .builtin .append, args := #[s, x], argTypes := #[t, t] })
    (B : Nat) (i : TypeInfo) (z : Value) (ht : P.underlying t = some (.slice 5)) (hi : P.info? 5 = some i) (hz : i.zero = some z) (hsize : i.size = 1) (hby : i.bytes = 1) (hzs : z.cells.size = 1)
    (v : Value) (n : Nat) (zs : List Int) (hs : ac.eval s = v) (hown : w.ownsRow B 5 1 v n (vals zs)) (src : Option Addr) (m c : Nat) (ys : List Int) (hx : ac.eval x = .slice src m c) (hr : Reads w src m ys) (hn : src = none → c = 0) (hm : n + m ≤ 1048576) (hB : B ≤ w.heap.size)
    (H : ∀ v' w', w'.ownsRow B 5 1 v' (n + m) (vals (zs ++ ys)) → w.grownBy w' v.ownBlock → (v' = .slice none 0 0 ↔ v = .slice none 0 0 ∧ m = 0) → K (ac.put o.dst v') w') :
    Oper.wp P o ac w K Q := by
  obtain ⟨v', w', hr', h2, h3, h4⟩ := run_appB (P := P) (w := w) t o.type B i z ht hi hz hsize hby hzs v n zs hown src m c ys hr hn hm hB
  unfold Oper.wp execOp
  simp only [ho, resolve, invoke, builtin, Sem.run_bind, Sem.run_pure, Result.andThen_ok, List.map_toArray, List.map_cons, List.map_nil, hs, hx, hr']
  exact H v' w' h2 h3 h4
theorem step_of {P : Program} {ops : Array Oper} {o : Oper} {ac : Act} {w : World} {K : Act → World → Prop} {Q : Exit → Act → World → Prop} {E : Prop} (hg : o.guard = none) (h : Oper.wp P o ac w K Q) : if Region.wanted o (yielded ops ac.tmps) = true then Oper.wp P o ac w K Q else E := by
  have hw : Region.wanted o (yielded ops ac.tmps) = true := by simp [Region.wanted, hg]
  rw [if_pos hw]
  exact h
theorem wp_strB {P : Program} {w : World} {o : Oper} {ac : Act} {K : Act → World → Prop} {Q : Exit → Act → World → Prop}
    (s x : Operand) (t u : TypeId) (ho : o.op = .call { callee := .builtin .append, args := #[s, x], argTypes := #[t, u] })
    (B : Nat) (i : TypeInfo) (ht : P.underlying t = some (.slice 5)) (hu : P.underlying u = some .string) (hi : P.info? 5 = some i) (hz : i.zero = some (.int .u8 0)) (hsize : i.size = 1) (hby : i.bytes = 1)
    (v : Value) (n : Nat) (zs : List Int) (hs : ac.eval s = v) (hown : w.ownsRow B 5 1 v n (vals zs)) (st : ByteArray) (ys : List Int) (hx : ac.eval x = .string st) (hy : ofB st.data.toList = ys) (hm : n + ys.length ≤ 1048576) (hB : B ≤ w.heap.size)
    (H : ∀ v' w', w'.ownsRow B 5 1 v' (n + ys.length) (vals (zs ++ ys)) → w.grownBy w' v.ownBlock → K (ac.put o.dst v') w') :
    Oper.wp P o ac w K Q := by
  have hsz : st.size = ys.length := by rw [← hy, ofB_len, Array.length_toList]; rfl
  obtain ⟨v', w', hr', h2, h3, _⟩ := Lib.run_append_own_string (P := P) w B t u o.type 5 i ht hu hi hz hsize hby v n (vals zs) hown st (by simp only [maxLen]; omega) (by omega) hB
  unfold Oper.wp execOp
  simp only [ho, resolve, invoke, builtin, Sem.run_bind, Sem.run_pure, Result.andThen_ok, List.map_toArray, List.map_cons, List.map_nil, hs, hx, hr']
  refine H v' w' ?_ h3
  rw [strCells_vals, hy, hsz] at h2
  simpa [vals] using h2
theorem wpList_strB {P : Program} {w : World} {ops : Array Oper} {rest : List Oper} {o : Oper} {ac : Act} {Q : Exit → Act → World → Prop}
    (hg : o.guard = none) (s x : Operand) (t u : TypeId) (ho : o.op = .call { callee := .builtin .append, args := #[s, x], argTypes := #[t, u] })
    (B : Nat) (i : TypeInfo) (ht : P.underlying t = some (.slice 5)) (hu : P.underlying u = some .string) (hi : P.info? 5 = some i) (hz : i.zero = some (.int .u8 0)) (hsize : i.size = 1) (hby : i.bytes = 1)
    (v : Value) (n : Nat) (zs : List Int) (hs : ac.eval s = v) (hown : w.ownsRow B 5 1 v n (vals zs)) (st : ByteArray) (ys : List Int) (hx : ac.eval x = .string st) (hy : ofB st.data.toList = ys) (hm : n + ys.length ≤ 1048576) (hB : B ≤ w.heap.size)
    (H : ∀ v' w', w'.ownsRow B 5 1 v' (n + ys.length) (vals (zs ++ ys)) → w.grownBy w' v.ownBlock → wpList P ops Q rest (ac.put o.dst v') w') :
    wpList P ops Q (o :: rest) ac w :=
  wpList_plain hg fun K hK => wp_strB s x t u ho B i ht hu hi hz hsize hby v n zs hs hown st ys hx hy hm hB fun v' w' h1 h2 => hK _ _ (H v' w' h1 h2)
theorem readsOneB (w : World) (x : Int) (t : TypeId) : Reads (w.alloc (.cells #[.int .u8 x] t)) (some ⟨w.heap.size, 0, none⟩) 1 [x] := by
  refine ⟨rfl, .inr ⟨_, _, rfl, fun i hi => ?_⟩⟩
  obtain rfl : i = 0 := by omega
  have hb := heap_alloc_new w (.cells #[.int .u8 x] t)
  unfold World.cell?
  rw [hb]
  rfl
/-- What a row of our own is. -/
theorem ownsS {B n : Nat} {w : World} {v : Value} {zs : List Int} (h : w.ownsRow B 5 1 v n (vals zs)) : zs.length = n ∧ ∃ a c, v = .slice a n c ∧ OwS B w a n c zs := by
  have hl : zs.length = n := by have := h.1; simpa [vals] using this
  refine ⟨hl, ?_⟩
  rcases h.2 with ⟨rfl, h0⟩ | ⟨g, cap, cur, rfl, _⟩
  · subst h0; exact ⟨none, 0, rfl, h, hl⟩
  · exact ⟨_, _, rfl, h, hl⟩
/-- What the library's writer leaves. -/
theorem FrS.of_kept {B : Nat} {w u : World} (hb : Below B w u) (hk : Lib.OthersKept 5 none w u) : FrS B w u :=
  ⟨hb, fun i cur t r hi ht => hk i _ hi (by simp) (fun c fz e => by injection e with _ e2; exact ht e2)⟩
theorem OwS.nilCap {B n c : Nat} {w : World} {a : Option Addr} {zs : List Int} (h : OwS B w a n c zs) : a = none → c = 0 := by
  intro e
  rcases h.1.2 with ⟨e1, _⟩ | ⟨g, cap, cur, e1, _⟩
  · injection e1 with _ _ e3
  · injection e1 with e2; rw [e] at e2; cases e2
end Go.Proofs.YtpmndefmibnaeaaDoor.By
