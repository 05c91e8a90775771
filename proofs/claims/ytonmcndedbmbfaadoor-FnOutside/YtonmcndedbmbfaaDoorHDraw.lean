/-
  A drawn heap: what is held along the drawing, for this seat's proofs. No statement is proved here.
-/
import Derived.Test.YtonmcndedbmbfaaDoorHLs
import Derived.Test.YtonmcndedbmbfaaDoorHSpecA
import Derived.Test.YtonmcndedbmbfaaDoorHNew
import Derived.Test.YtonmcndedbmbfaaDoorDrawN
namespace Go.Proofs.YtonmcndedbmbfaaDoor.By
open Go.RowKit
set_option linter.unusedVariables false
set_option linter.unusedSimpArgs false

theorem Cur.ltH {w0 w : World} {g n cap : Nat} {a : Option Addr} (h : Cur w0 w g a n cap) : g < w.heap.size := by obtain ⟨_, _, i, x, hb, _⟩ := h; exact lt_of_block hb
/-- Of what was there the blocks p, q and r alone may have turned. -/
def Turn3 (w w' : World) (p q r : Nat) : Prop := w.heap.size ≤ w'.heap.size ∧ w'.os = w.os ∧ w'.tape = w.tape ∧ w'.output = w.output ∧ ∀ k, k < w.heap.size → k ≠ p → k ≠ q → k ≠ r → w'.heap[k]? = w.heap[k]?
theorem Turn3.of {w w' : World} {p q r : Nat} {row : Option Nat} (h : w.grownBy w' row) (hr : row = none ∨ row = some p ∨ row = some q ∨ row = some r) : Turn3 w w' p q r :=
  ⟨h.size, h.os, h.tape, h.output, fun k hk h1 h2 h3 => h.block k hk (by rcases hr with rfl | rfl | rfl | rfl <;> simp <;> assumption)⟩
theorem Turn3.ofTurns {w w' : World} {p q r : Nat} (h : Turns w w' p r) : Turn3 w w' p q r := ⟨h.1, h.2.1, h.2.2.1, h.2.2.2.1, fun k hk h1 _ h3 => h.2.2.2.2 k hk h1 h3⟩
theorem Turn3.trans {w w' w'' : World} {p q r : Nat} (h : Turn3 w w' p q r) (h' : Turn3 w' w'' p q r) : Turn3 w w'' p q r :=
  ⟨Nat.le_trans h.1 h'.1, h'.2.1.trans h.2.1, h'.2.2.1.trans h.2.2.1, h'.2.2.2.1.trans h.2.2.2.1, fun k hk h1 h2 h3 => (h'.2.2.2.2 k (Nat.lt_of_lt_of_le hk h.1) h1 h2 h3).trans (h.2.2.2.2 k hk h1 h2 h3)⟩
theorem Turn3.kept {w0 w u u' : World} {g p q r n cap : Nat} {a : Option Addr} (h : Kept w0 w u g a n cap) (T : Turn3 u u' p q r) (hp : w.heap.size ≤ p) (hq : w.heap.size ≤ q) (hr : w.heap.size ≤ r) (hg : g < w.heap.size) (h0 : w0.heap.size ≤ w.heap.size) : Kept w0 w u' g a n cap := by
  obtain ⟨⟨h1, h2, i, x, hb, hi⟩, k⟩ := h
  have s := k.size
  refine ⟨⟨h1, ⟨T.2.1.trans h2.os, T.2.2.1.trans h2.tape, T.2.2.2.1.trans h2.output, Nat.le_trans h2.size T.1, fun b hb => (T.2.2.2.2 b (by omega) (by omega) (by omega) (by omega)).trans (h2.block b hb)⟩, i, x, (T.2.2.2.2 g (by omega) (by omega) (by omega) (by omega)).trans hb, hi⟩, ?_⟩
  exact ⟨T.2.1.trans k.os, T.2.2.1.trans k.tape, T.2.2.2.1.trans k.output, Nat.le_trans s T.1, fun b hb hne => (T.2.2.2.2 b (by omega) (by omega) (by omega) (by omega)).trans (k.block b hb hne)⟩

/-- What is held of the heap that is being drawn (block p; p0: where the answer will lie; g: the cursor). -/
structure HS (w0 w u : World) (g p0 p : Nat) (a0 : Option Addr) (n0 cap0 : Nat) (av : Option Addr) (n c : Nat) (half low next : Int) (bv : Option Addr) (m d : Nat) (ws ls : List Int) (gw gl : Nat) : Prop where
  kept : Kept w0 w u g a0 n0 cap0
  hp : u.heap[p]? = some (.cells #[.slice av n c, .int .i64 half, .int .i64 low, .int .i64 next, .slice bv m d] 26 (0, 0))
  z : u.heap[p0]? = some (.cells #[.slice none 0 0, .int .i64 0, .int .i64 0, .int .i64 0, .slice none 0 0] 26 (0, 0))
  row : OwnI u 3 gw av n ws
  log : LogI u 59 gl bv m d ls
  cap : n ≤ c
  lw : w.heap.size ≤ gw ∧ gw ≠ p ∧ gw ≠ p0
  ll : w.heap.size ≤ gl ∧ gl ≠ p ∧ gl ≠ p0
  wl : n = 0 ∨ gw ≠ gl
  lp : w.heap.size ≤ p0 ∧ w.heap.size ≤ p ∧ p0 ≠ p
  lg : g < w.heap.size
  l0 : w0.heap.size ≤ w.heap.size

section
variable {w0 w u u' : World} {g p0 p : Nat} {a0 : Option Addr} {n0 cap0 : Nat} {av : Option Addr} {n c : Nat} {half low next : Int} {bv : Option Addr} {m d : Nat} {ws ls : List Int} {gw gl : Nat}
theorem HS.cur (h : HS w0 w u g p0 p a0 n0 cap0 av n c half low next bv m d ws ls gw gl) (k : Kept w0 u u' g a0 n0 cap0) : HS w0 w u' g p0 p a0 n0 cap0 av n c half low next bv m d ws ls gw gl := by
  have e1 := h.lw; have e2 := h.ll; have e3 := h.lp; have e4 := h.lg
  exact ⟨h.kept.trans k, (k.2.block p (lt_of_block h.hp) (by simp; omega)).trans h.hp, (k.2.block p0 (lt_of_block h.z) (by simp; omega)).trans h.z, h.row.kept k.2 (by simp; omega), h.log.kept k.2 (by simp; omega), h.cap, h.lw, h.ll, h.wl, h.lp, h.lg, h.l0⟩
theorem HS.none (h : HS w0 w u g p0 p a0 n0 cap0 av n c half low next bv m d ws ls gw gl) (k : u.grownBy u' Option.none) : HS w0 w u' g p0 p a0 n0 cap0 av n c half low next bv m d ws ls gw gl := by
  have e1 := h.lw; have e2 := h.ll; have e3 := h.lp
  exact ⟨Turn3.kept h.kept (Turn3.of (p := p) (q := p) (r := p) k (.inl rfl)) e3.2.1 e3.2.1 e3.2.1 h.lg h.l0, (k.block p (lt_of_block h.hp) (by simp)).trans h.hp, (k.block p0 (lt_of_block h.z) (by simp)).trans h.z, h.row.kept k (by simp), h.log.kept k (by simp), h.cap, h.lw, h.ll, h.wl, h.lp, h.lg, h.l0⟩
theorem HS.put {half' low' next' : Int} (h : HS w0 w u g p0 p a0 n0 cap0 av n c half low next bv m d ws ls gw gl) (k : u.grownBy u' (some p)) (hp' : u'.heap[p]? = some (.cells #[.slice av n c, .int .i64 half', .int .i64 low', .int .i64 next', .slice bv m d] 26 (0, 0))) : HS w0 w u' g p0 p a0 n0 cap0 av n c half' low' next' bv m d ws ls gw gl := by
  have e1 := h.lw; have e2 := h.ll; have e3 := h.lp
  exact ⟨Turn3.kept h.kept (Turn3.of (p := p) (q := p) (r := p) k (.inr (.inl rfl))) e3.2.1 e3.2.1 e3.2.1 h.lg h.l0, hp', (k.block p0 (lt_of_block h.z) (by simp; omega)).trans h.z, h.row.kept k (by simp; omega), h.log.kept k (by simp; omega), h.cap, h.lw, h.ll, h.wl, h.lp, h.lg, h.l0⟩
/-- Behind l2alloc. -/
theorem HS.taken {off : Nat} {next' : Int} {ws' : List Int} {u1 : World} (h : HS w0 w u g p0 p a0 n0 cap0 (some ⟨gw, off, Option.none⟩) n c half low next bv m d ws ls gw gl) (k1 : u.grownBy u1 (some gw)) (k2 : u1.grownBy u' (some p)) (hn : 0 < n) (hp' : u'.heap[p]? = some (.cells #[.slice (some ⟨gw, off, Option.none⟩) n c, .int .i64 half, .int .i64 low, .int .i64 next', .slice bv m d] 26 (0, 0))) (hr : RowAt u' 3 gw off ws') (hl : ws'.length = n) :
    HS w0 w u' g p0 p a0 n0 cap0 (some ⟨gw, off, Option.none⟩) n c half low next' bv m d ws' ls gw gl := by
  have e1 := h.lw; have e2 := h.ll; have e3 := h.lp; have e4 := h.wl
  have s1 := lt_of_block h.z
  have s2 := k1.size
  exact ⟨Turn3.kept h.kept (Turn3.trans (Turn3.of (p := p) (q := gw) (r := p) k1 (.inr (.inr (.inl rfl)))) (Turn3.of k2 (.inr (.inl rfl)))) e3.2.1 e1.1 e3.2.1 h.lg h.l0, hp', (k2.block p0 (by omega) (by simp; omega)).trans ((k1.block p0 s1 (by simp; omega)).trans h.z), ⟨hl, .inr ⟨off, rfl, hr⟩⟩, (h.log.kept k1 (by simp; omega)).kept k2 (by simp; omega), h.cap, h.lw, h.ll, h.wl, h.lp, h.lg, h.l0⟩
/-- Behind l2store. -/
theorem HS.stored {off m' d' gl' : Nat} {bv' : Option Addr} {ws' ls' : List Int} {u1 : World} (h : HS w0 w u g p0 p a0 n0 cap0 (some ⟨gw, off, Option.none⟩) n c half low next bv m d ws ls gw gl) (k1 : Turns u u1 p gl) (k2 : u1.grownBy u' (some gw)) (hn : 0 < n) (hp' : u'.heap[p]? = some (.cells #[.slice (some ⟨gw, off, Option.none⟩) n c, .int .i64 half, .int .i64 low, .int .i64 next, .slice bv' m' d'] 26 (0, 0))) (hr : RowAt u' 3 gw off ws') (hl : ws'.length = n) (hlog : LogI u' 59 gl' bv' m' d' ls') (hgl : gl' = gl ∨ u.heap.size ≤ gl') :
    HS w0 w u' g p0 p a0 n0 cap0 (some ⟨gw, off, Option.none⟩) n c half low next bv' m' d' ws' ls' gw gl' := by
  have e1 := h.lw; have e2 := h.ll; have e3 := h.lp; have e4 := h.wl
  have s1 := lt_of_block h.z
  have s2 := k1.1
  have s3 := lt_of_block h.hp
  have s4 := h.row.lt
  have s5 := h.kept.2.size
  exact ⟨Turn3.kept h.kept (Turn3.trans (Turn3.ofTurns (q := gw) k1) (Turn3.of k2 (.inr (.inr (.inl rfl))))) e3.2.1 e1.1 e2.1 h.lg h.l0, hp', (k2.block p0 (by omega) (by simp; omega)).trans ((k1.2.2.2.2 p0 s1 (by omega) (by omega)).trans h.z), ⟨hl, .inr ⟨off, rfl, hr⟩⟩, hlog, h.cap, h.lw, ⟨by omega, by omega, by omega⟩, by omega, h.lp, h.lg, h.l0⟩
end

/-- A heap that was drawn: it reads so. -/
structure HD (w0 w u : World) (g p0 p : Nat) (a0 : Option Addr) (n0 cap0 : Nat) (av : Option Addr) (n c : Nat) (half low next : Int) (bv : Option Addr) (m d : Nat) (ws ls : List Int) (gw gl : Nat) : Prop where
  kept : Kept w0 w u g a0 n0 cap0
  hp : u.heap[p]? = some (.cells #[.slice av n c, .int .i64 half, .int .i64 low, .int .i64 next, .slice bv m d] 26 (0, 0))
  z : u.heap[p0]? = some (.cells #[.slice none 0 0, .int .i64 0, .int .i64 0, .int .i64 0, .slice none 0 0] 26 (0, 0))
  rw : OwnI u 3 gw av n ws
  rl : OwnI u 59 gl bv (m * 3) ls
  nw : gw ≠ p0
  nl : gl ≠ p0
  na : av = none → c = 0
  nb : bv = none → d = 0
  fits : n ≤ 8192 ∧ m ≤ 4001 ∧ -1 ≤ half ∧ half ≤ 8192 ∧ -1 ≤ low ∧ low ≤ 8192 ∧ -1 ≤ next ∧ next ≤ 8192
  lp : w.heap.size ≤ p0 ∧ w.heap.size ≤ p ∧ p0 ≠ p
theorem HS.done {w0 w u : World} {g p0 p : Nat} {a0 : Option Addr} {n0 cap0 : Nat} {av : Option Addr} {n c : Nat} {half low next : Int} {bv : Option Addr} {m d : Nat} {ws ls : List Int} {gw gl : Nat} (h : HS w0 w u g p0 p a0 n0 cap0 av n c half low next bv m d ws ls gw gl) (ha : av = Option.none → c = 0) (hf : n ≤ 8192 ∧ m ≤ 4001 ∧ -1 ≤ half ∧ half ≤ 8192 ∧ -1 ≤ low ∧ low ≤ 8192 ∧ -1 ≤ next ∧ next ≤ 8192) : HD w0 w u g p0 p a0 n0 cap0 av n c half low next bv m d ws ls gw gl :=
  ⟨h.kept, h.hp, h.z, h.row, h.log.own, h.lw.2.2, h.ll.2.2, ha, (fun e => by
    rcases h.log.2 with ⟨_, _, r⟩ | ⟨off, cur, r, _⟩
    · exact r
    · rw [e] at r; cases r), hf, h.lp⟩
theorem HS.slim {w0 w u u' : World} {g p0 p : Nat} {a0 : Option Addr} {n0 cap0 : Nat} {av av' : Option Addr} {n c n' c' : Nat} {half low next : Int} {bv bv' : Option Addr} {m d m' d' : Nat} {ws ls ws' ls' : List Int} {gw gl gw' gl' : Nat} (h : HS w0 w u g p0 p a0 n0 cap0 av n c half low next bv m d ws ls gw gl) (k : u.grownBy u' (some p)) (hp' : u'.heap[p]? = some (.cells #[.slice av' n' c', .int .i64 half, .int .i64 low, .int .i64 next, .slice bv' m' d'] 26 (0, 0))) (hr : OwnI u' 3 gw' av' n' ws') (hl : OwnI u' 59 gl' bv' (m' * 3) ls') (hnw : gw' ≠ p0) (hnl : gl' ≠ p0) (ha : av' = Option.none → c' = 0) (hb : bv' = Option.none → d' = 0)
    (hf : n' ≤ 8192 ∧ m' ≤ 4001 ∧ -1 ≤ half ∧ half ≤ 8192 ∧ -1 ≤ low ∧ low ≤ 8192 ∧ -1 ≤ next ∧ next ≤ 8192) : HD w0 w u' g p0 p a0 n0 cap0 av' n' c' half low next bv' m' d' ws' ls' gw' gl' := by
  have e3 := h.lp
  exact ⟨Turn3.kept h.kept (Turn3.of (p := p) (q := p) (r := p) k (.inr (.inl rfl))) e3.2.1 e3.2.1 e3.2.1 h.lg h.l0, hp', (k.block p0 (lt_of_block h.z) (by simp; omega)).trans h.z, hr, hl, hnw, hnl, ha, hb, hf, h.lp⟩
theorem OwnI.cur {w0 u u' : World} {t : TypeId} {gw k g n cap : Nat} {a a0 : Option Addr} {zs : List Int} (o : OwnI u t gw a k zs) (hc : Cur w0 u g a0 n cap) (ht : t ≠ 63) (hk : u.grownBy u' (some g)) : OwnI u' t gw a k zs := by
  rcases o.2 with h | ⟨off, h, cur, hb, _⟩
  · exact ⟨o.1, .inl h⟩
  · refine o.kept hk (fun e => ?_)
    obtain ⟨_, _, i, x, hg, _⟩ := hc
    simp at e
    subst e
    rw [hb] at hg
    simp at hg
    exact ht hg.2
theorem OwnI.past {u u' : World} {t t' : TypeId} {gw k p : Nat} {a : Option Addr} {zs : List Int} {cs : Array Value} {fr : Nat × Nat} (o : OwnI u t gw a k zs) (hb : u.heap[p]? = some (.cells cs t' fr)) (ht : t ≠ t') (hk : u.grownBy u' (some p)) : OwnI u' t gw a k zs := by
  rcases o.2 with h | ⟨off, h, cur, hc, _⟩
  · exact ⟨o.1, .inl h⟩
  · refine o.kept hk (fun e => ?_)
    simp at e
    subst e
    rw [hc] at hb
    simp at hb
    exact ht hb.2.1
theorem pickCells (u : World) (l : List Int) : ∀ j, j < l.length → (u.alloc (.cells (l.map (Value.int .i64)).toArray 3)).cell? ⟨u.heap.size, j, none⟩ = some (.int .i64 (l.getD j 0)) := list_cells (heap_alloc_new u _)
theorem OwnI.take {w : World} {t : TypeId} {g : Nat} {a : Option Addr} {k : Nat} {zs : List Int} (h : OwnI w t g a k zs) (j : Nat) (hj : j ≤ k) : OwnI w t g a j (zs.take j) := by
  obtain ⟨hl, h⟩ := h
  refine ⟨by simp; omega, ?_⟩
  by_cases h0 : j = 0
  · exact .inl h0
  · rcases h with h | ⟨off, rfl, cur, hc, hr⟩
    · omega
    · refine .inr ⟨off, rfl, cur, hc, fun i hi => ?_⟩
      have hi' : i < j := by simp at hi; omega
      rw [hr i (by omega)]
      simp [List.getD_eq_getElem?_getD, List.getElem?_take, hi']
end Go.Proofs.YtonmcndedbmbfaaDoor.By
