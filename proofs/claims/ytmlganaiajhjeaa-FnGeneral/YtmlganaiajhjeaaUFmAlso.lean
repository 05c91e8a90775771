/-
  Several texts in one (UDc, UFm). No statement is proved here.
-/
import Derived.Test.YtmlganaiajhjeaaUDb
import Derived.Test.YtmlganaiajhjeaaTPut
import Derived.Test.YtmlganaiajhjeaaUUbAlso
namespace Go.Proofs.Ytmlganaiajhjeaa.By
open Go.RowKit
set_option linter.unusedVariables false
set_option linter.unusedSimpArgs false

theorem results_tcc {P : Program} {fn : Func} {t p u : Tmp} {ty : TypeId} (h : fn.results = #[.tmp t, .cell p ty, .cell u ty]) (tmps : Array Value) (w : World) (g g' : Nat) (t1 t' : TypeId) (cs ds : Array Value) (fr fr' : Nat × Nat) (d : TypeDesc)
    (hp : tmps.getD p undef = .pointer (some ⟨g, 0, none⟩)) (hg : w.heap[g]? = some (.cells cs t1 fr)) (hq : tmps.getD u undef = .pointer (some ⟨g', 0, none⟩)) (hg' : w.heap[g']? = some (.cells ds t' fr'))
    (hu : P.underlying ty = some d) (hd : (match d with | .struct _ | .array _ _ => true | _ => false) = true) (hi : (P.info? ty).map (·.size) = some cs.size) (hi' : (P.info? ty).map (·.size) = some ds.size) :
    (results fn tmps).run P w = .ok (.tuple #[tmps.getD t undef, .agg cs, .agg ds]) w := by
  have hp' : tmps[p]?.getD undef = .pointer (some ⟨g, 0, none⟩) := by simpa using hp
  have hq' : tmps[u]?.getD undef = .pointer (some ⟨g', 0, none⟩) := by simpa using hq
  simp [results, h, hp', hq', asAddr, run_loadVar_row w g t1 ty cs fr d hg hu hd hi, run_loadVar_row w g' t' ty ds fr' d hg' hu hd hi']

theorem V5_len {L : B} (h : wfB L) (k : allB V5 L) : L.len ≤ 5 := by
  rw [← B.dom_len]
  refine nodup_len (m := [0, 1, 2, 3, 4]) (wfB_dom h).1 (fun x hx => ?_)
  have := allB_dom k x hx
  unfold V5 at this
  simp
  omega

/-- A tree as a value, and where it lies. -/
structure Tr where
  k : Int
  m : Int
  a : Option Addr
  l : Nat
  c : Nat
  f : F
  bs : List Nat
def Tr.cs (t : Tr) : Array Value := #[.int .i64 t.k, .int .i64 t.m, .slice t.a t.l t.c]

/-- What stands while the second one is drawn. -/
structure DuS (w0 wb : World) (g : Nat) (a : Option Addr) (n cap : Nat) (q1 q2 q7 q8 : Nat) (s t : Tr) (u : World) : Prop where
  kept : Kept w0 wb u g a n cap
  res : u.heap[q1]? = some (Obj.cells #[.int .i64 0, .int .i64 0, .slice none 0 0] 25)
  res2 : u.heap[q2]? = some (Obj.cells #[.int .i64 0, .int .i64 0, .slice none 0 0] 25)
  boxA : u.heap[q7]? = some (Obj.cells #[.int .i64 s.k, .int .i64 s.m, .slice s.a s.l s.c] 25)
  boxB : u.heap[q8]? = some (Obj.cells #[.int .i64 t.k, .int .i64 t.m, .slice t.a t.l t.c] 25)
  ownA : SlO u 25 s.a s.l s.c s.f s.bs
  gtA : ∀ y ∈ s.bs, wb.heap.size ≤ y ∧ y ≠ q7 ∧ y ≠ q8
  ownB : SlO u 25 t.a t.l t.c t.f t.bs
  gtB : ∀ y ∈ t.bs, wb.heap.size ≤ y ∧ y ≠ q7 ∧ y ≠ q8
theorem DuS.quiet {w0 wb u u' : World} {g n cap q1 q2 q7 q8 : Nat} {a : Option Addr} {s t : Tr} (h : DuS w0 wb g a n cap q1 q2 q7 q8 s t u) (hg : u.grownBy u' Option.none) : DuS w0 wb g a n cap q1 q2 q7 q8 s t u' :=
  ⟨h.kept.none hg, (hg.block _ (lt_of_block h.res) (by simp)).trans h.res, (hg.block _ (lt_of_block h.res2) (by simp)).trans h.res2, (hg.block _ (lt_of_block h.boxA) (by simp)).trans h.boxA, (hg.block _ (lt_of_block h.boxB) (by simp)).trans h.boxB, h.ownA.old hg, h.gtA, h.ownB.old hg, h.gtB⟩
theorem DuS.cur {w0 wb u u' : World} {g n cap q1 q2 q7 q8 : Nat} {a : Option Addr} {s t : Tr} (h : DuS w0 wb g a n cap q1 q2 q7 q8 s t u) (hk : Kept w0 u u' g a n cap) (hq : q1 < g ∧ q2 < g ∧ g < wb.heap.size ∧ wb.heap.size ≤ q7 ∧ q7 < q8) : DuS w0 wb g a n cap q1 q2 q7 q8 s t u' :=
  ⟨h.kept.trans hk, (hk.2.block _ (lt_of_block h.res) (by simp; omega)).trans h.res, (hk.2.block _ (lt_of_block h.res2) (by simp; omega)).trans h.res2, (hk.2.block _ (lt_of_block h.boxA) (by simp; omega)).trans h.boxA, (hk.2.block _ (lt_of_block h.boxB) (by simp; omega)).trans h.boxB, h.ownA.kept hk.2 (fun y hy => by have := (h.gtA y hy).1; simp; omega), h.gtA, h.ownB.kept hk.2 (fun y hy => by have := (h.gtB y hy).1; simp; omega), h.gtB⟩
/-- The second one is another. -/
theorem DuS.putB {w0 wb u : World} {g n cap q1 q2 q7 q8 : Nat} {a : Option Addr} {s t : Tr} (h : DuS w0 wb g a n cap q1 q2 q7 q8 s t u) (t' : Tr) (ho : SlO u 25 t'.a t'.l t'.c t'.f t'.bs) (hgt : ∀ y ∈ t'.bs, wb.heap.size ≤ y ∧ y ≠ q7 ∧ y ≠ q8) (hq : q1 < g ∧ q2 < g ∧ g < wb.heap.size ∧ wb.heap.size ≤ q7 ∧ q7 < q8) (h0 : w0.heap.size ≤ wb.heap.size) : DuS w0 wb g a n cap q1 q2 q7 q8 s t' (((u.setCell ⟨q8, 0, none⟩ (.int .i64 t'.k)).setCell ⟨q8, 1, none⟩ (.int .i64 t'.m)).setCell ⟨q8, 2, none⟩ (.slice t'.a t'.l t'.c)) := by
  obtain ⟨d1, k1⟩ := fill3 (.int .i64 t'.k) (.int .i64 t'.m) (.slice t'.a t'.l t'.c) h.boxB
  exact ⟨h.kept.into k1 (by omega) (by omega) h0, (k1.block _ (lt_of_block h.res) (by simp; omega)).trans h.res, (k1.block _ (lt_of_block h.res2) (by simp; omega)).trans h.res2, (k1.block _ (lt_of_block h.boxA) (by simp; omega)).trans h.boxA, d1, h.ownA.kept k1 (fun y hy => by have := (h.gtA y hy).2.2; simp; omega), h.gtA, ho.kept k1 (fun y hy => by have := (hgt y hy).2.2; simp; omega), hgt⟩

/-- What stands while the answers are laid down. -/
structure DuF (w : World) (lo q1 q2 q7 q8 : Nat) (C1 C2 : Value × Value × Value) (s t : Tr) (av : Option Addr) (f : B) (u : World) : Prop where
  grown : w.grownBy u none
  res : u.heap[q1]? = some (Obj.cells #[C1.1, C1.2.1, C1.2.2] 25)
  res2 : u.heap[q2]? = some (Obj.cells #[C2.1, C2.2.1, C2.2.2] 25)
  boxA : u.heap[q7]? = some (Obj.cells #[.int .i64 s.k, .int .i64 s.m, .slice s.a s.l s.c] 25)
  boxB : u.heap[q8]? = some (Obj.cells #[.int .i64 t.k, .int .i64 t.m, .slice t.a t.l t.c] 25)
  ownA : SlO u 25 s.a s.l s.c s.f s.bs
  gtA : ∀ y ∈ s.bs, lo ≤ y
  ownB : SlO u 25 t.a t.l t.c t.f t.bs
  gtB : ∀ y ∈ t.bs, lo ≤ y
  lst : SlBD (hideB u lo) 25 44 av f.len f
theorem SlBD.hideKept {w u : World} {t s : TypeId} {f : B} {a : Option Addr} {l lo : Nat} (h : SlBD (hideB w lo) t s a l f) (hx : ∀ i, lo ≤ i → i < w.heap.size → u.heap[i]? = w.heap[i]?) : SlBD (hideB u lo) t s a l f :=
  h.fixB fun i cur y hc => by
    have hl := hide_cells hc
    have e := hide_heap (w := w) hl
    exact (hide_heap hl).trans ((hx i hl (lt_of_block (e.symm.trans hc))).trans e.symm)
theorem DuF.put1 {w u : World} {lo q1 q2 q7 q8 : Nat} {C1 C2 : Value × Value × Value} {s t : Tr} {av : Option Addr} {f : B} (h : DuF w lo q1 q2 q7 q8 C1 C2 s t av f u) (v0 v1 v2 : Value) (hq : w.heap.size ≤ q1 ∧ q1 < q2 ∧ q2 < lo ∧ lo ≤ q7 ∧ lo ≤ q8) : DuF w lo q1 q2 q7 q8 (v0, v1, v2) C2 s t av f (((u.setCell ⟨q1, 0, none⟩ v0).setCell ⟨q1, 1, none⟩ v1).setCell ⟨q1, 2, none⟩ v2) := by
  obtain ⟨d1, k1⟩ := fill3 v0 v1 v2 h.res
  exact ⟨grown_into h.grown k1 (by omega), d1, (k1.block _ (lt_of_block h.res2) (by simp; omega)).trans h.res2, (k1.block _ (lt_of_block h.boxA) (by simp; omega)).trans h.boxA, (k1.block _ (lt_of_block h.boxB) (by simp; omega)).trans h.boxB, h.ownA.kept k1 (fun y hy => by have := h.gtA y hy; simp; omega), h.gtA, h.ownB.kept k1 (fun y hy => by have := h.gtB y hy; simp; omega), h.gtB, h.lst.hideKept (fun i h1 h2 => k1.block i h2 (by simp; omega))⟩
theorem DuF.put2 {w u : World} {lo q1 q2 q7 q8 : Nat} {C1 C2 : Value × Value × Value} {s t : Tr} {av : Option Addr} {f : B} (h : DuF w lo q1 q2 q7 q8 C1 C2 s t av f u) (v0 v1 v2 : Value) (hq : w.heap.size ≤ q1 ∧ q1 < q2 ∧ q2 < lo ∧ lo ≤ q7 ∧ lo ≤ q8) : DuF w lo q1 q2 q7 q8 C1 (v0, v1, v2) s t av f (((u.setCell ⟨q2, 0, none⟩ v0).setCell ⟨q2, 1, none⟩ v1).setCell ⟨q2, 2, none⟩ v2) := by
  obtain ⟨d1, k1⟩ := fill3 v0 v1 v2 h.res2
  exact ⟨grown_into h.grown k1 (by omega), (k1.block _ (lt_of_block h.res) (by simp; omega)).trans h.res, d1, (k1.block _ (lt_of_block h.boxA) (by simp; omega)).trans h.boxA, (k1.block _ (lt_of_block h.boxB) (by simp; omega)).trans h.boxB, h.ownA.kept k1 (fun y hy => by have := h.gtA y hy; simp; omega), h.gtA, h.ownB.kept k1 (fun y hy => by have := h.gtB y hy; simp; omega), h.gtB, h.lst.hideKept (fun i h1 h2 => k1.block i h2 (by simp; omega))⟩
theorem DuS.fin {w0 wb w u : World} {g n cap q1 q2 q7 q8 lo : Nat} {a av : Option Addr} {s t : Tr} {f : B} (h : DuS w0 wb g a n cap q1 q2 q7 q8 s t u) (hw : w.grownBy wb none) (hgw : w.heap.size ≤ g) (hlo : lo ≤ wb.heap.size) (hgl : g < lo) (hl : SlBD (hideB wb lo) 25 44 av f.len f) : DuF w lo q1 q2 q7 q8 (.int .i64 0, .int .i64 0, .slice none 0 0) (.int .i64 0, .int .i64 0, .slice none 0 0) s t av f u :=
  ⟨grown_into hw h.kept.2 hgw, h.res, h.res2, h.boxA, h.boxB, h.ownA, fun y hy => by have := (h.gtA y hy).1; omega, h.ownB, fun y hy => by have := (h.gtB y hy).1; omega, hl.hideKept (fun i h1 h2 => h.kept.2.block i h2 (by simp; omega))⟩

/-- Binds and two trees are handed back, all in memory of their own. -/
def DuA (w : World) (e : Ending) (u : World) : Prop :=
  ∃ (f L : B) (av : Option Addr) (cv : Nat) (s t : Tr), e = .returned (.tuple #[.slice av f.len cv, .agg #[.int .i64 s.k, .int .i64 s.m, .slice s.a s.l s.c], .agg #[.int .i64 t.k, .int .i64 t.m, .slice t.a t.l t.c]]) ∧ w.grownBy u none ∧ SlBD u 25 44 av f.len f ∧ SlO u 25 s.a s.l s.c s.f s.bs ∧ SlO u 25 t.a t.l t.c t.f t.bs ∧ (∀ x ∈ vT s.k s.m s.f, V5 x) ∧ wfB L ∧ allB V5 L ∧ (f = L ∨ ∃ v k m d, f = L.app (.cons v k m d .nil))
end Go.Proofs.Ytmlganaiajhjeaa.By

namespace Go.Proofs.Ytmlganaiajhjeaa.By
open Go.RowKit
set_option linter.unusedVariables false

theorem allB_mono {V W : Int → Prop} {L : B} (h : allB V L) (k : ∀ x, V x → W x) : allB W L := by
  induction L with
  | nil => trivial
  | cons v kk n d r ih => exact ⟨k _ h.1, fun x hx => k x (h.2.1 x hx), ih h.2.2⟩
theorem wfB_mid {P Q : B} {v k n : Int} {d : F} (h : wfB (P.app (.cons v k n d Q))) : okT k n d = true := by
  induction P with
  | nil => exact h.2.1
  | cons v' k' n' d' r ih => exact ih h.2.2.2.2
theorem vT_len60 {k n : Int} {d : F} (h : okT k n d = true) : (vT k n d).length ≤ 60 := by
  have h2 : 1 + d.size ≤ 60 := by simp only [okT, Bool.and_eq_true, decide_eq_true_eq] at h; exact h.2
  have := varsF_len d
  unfold vT
  split
  · simp
  · omega
theorem uniV_in {f L' : B} {s t : Int × Int × F} (h : uniV f s t = some L') : okT s.1 s.2.1 s.2.2 = true ∧ okT t.1 t.2.1 t.2.2 = true := by
  unfold uniV at h
  split at h
  · rename_i hc
    simp only [Bool.and_eq_true] at hc
    exact hc.2
  · cases h
theorem uniV_count {f L L' : B} {s t : Int × Int × F} (h : uniV f s t = some L') (ha : allB V5 L) (hc : f = L ∨ ∃ v k m d, f = L.app (.cons v k m d .nil)) (hs : ∀ x ∈ vTt s, V5 x) : L'.len ≤ 400 := by
  obtain ⟨⟨hw, M, hM⟩, -⟩ := uniV_sound h
  obtain ⟨-, ot⟩ := uniV_in h
  have lt := vT_len60 ot
  have h5 : ∀ x, V5 x → x ∈ [(0 : Int), 1, 2, 3, 4] := fun x hx => by unfold V5 at hx; simp; omega
  rcases hc with rfl | ⟨v, k, m, d, rfl⟩
  · refine Nat.le_trans (uniV_len (m := [0, 1, 2, 3, 4] ++ vTt t) h (allB_mono ha fun x hx => List.mem_append_left _ (h5 x hx)) (fun x hx => List.mem_append_left _ (h5 x (hs x hx))) (fun x hx => List.mem_append_right _ hx)) ?_
    simp only [List.length_append, List.length_cons, List.length_nil]
    unfold vTt
    omega
  · have ob : okT k m d = true := by
      rw [hM, B.app_assoc] at hw
      exact wfB_mid hw
    have lb := vT_len60 ob
    refine Nat.le_trans (uniV_len (m := [0, 1, 2, 3, 4] ++ ((v :: vT k m d) ++ vTt t)) h (allB_app (allB_mono ha fun x hx => List.mem_append_left _ (h5 x hx)) ⟨by simp, fun x hx => by simp [hx], trivial⟩) (fun x hx => List.mem_append_left _ (h5 x (hs x hx))) (fun x hx => List.mem_append_right _ (List.mem_append_right _ hx))) ?_
    simp only [List.length_append, List.length_cons, List.length_nil]
    unfold vTt
    omega
theorem uniV_facts {f L' : B} {s t : Int × Int × F} (h : uniV f s t = some L') (hl : L'.len ≤ 400) : bindsV L' = true ∧ resOk L' s.1 s.2.1 s.2.2 = true ∧ resOk L' t.1 t.2.1 t.2.2 = true ∧ resOk L' (rsT L' s).1 (rsT L' s).2.1 (rsT L' s).2.2 = true ∧ rsT L' t = rsT L' s ∧ rsT L' (rsT L' s) = rsT L' s ∧ ∃ M, L' = f.app M := by
  obtain ⟨⟨hw, hM⟩, e1, w1, w2, o3, w3, e2⟩ := uniV_sound h
  obtain ⟨o1, o2⟩ := uniV_in h
  have hb := bindsV_of_wf hw hl
  refine ⟨hb, ?_, ?_, ?_, e1.symm, e2, hM⟩ <;> simp only [resOk, Bool.and_eq_true]
  · exact ⟨hb, o1, w1⟩
  · exact ⟨hb, o2, w2⟩
  · exact ⟨hb, o3, w3⟩
end Go.Proofs.Ytmlganaiajhjeaa.By
