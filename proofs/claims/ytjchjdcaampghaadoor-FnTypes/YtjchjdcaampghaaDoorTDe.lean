/-
  Two trees that are drawn. No statement is proved here.
-/
import Derived.Test.YtjchjdcaampghaaDoorTDz
import Derived.Test.YtjchjdcaampghaaDoorTPush
namespace Go.Proofs.YtjchjdcaampghaaDoor.By
open Go.RowKit
set_option linter.unusedVariables false
set_option linter.unusedSimpArgs false

theorem results_cells {P : Program} {fn : Func} {p u : Tmp} {ty : TypeId} (h : fn.results = #[.cell p ty, .cell u ty]) (tmps : Array Value) (w : World) (g g' : Nat) (t t' : TypeId) (cs ds : Array Value) (fr fr' : Nat × Nat) (d : TypeDesc)
    (hp : tmps.getD p undef = .pointer (some ⟨g, 0, none⟩)) (hg : w.heap[g]? = some (.cells cs t fr)) (hq : tmps.getD u undef = .pointer (some ⟨g', 0, none⟩)) (hg' : w.heap[g']? = some (.cells ds t' fr'))
    (hu : P.underlying ty = some d) (hd : (match d with | .struct _ | .array _ _ => true | _ => false) = true) (hi : (P.info? ty).map (·.size) = some cs.size) (hi' : (P.info? ty).map (·.size) = some ds.size) :
    (results fn tmps).run P w = .ok (.tuple #[.agg cs, .agg ds]) w := by
  have hp' : tmps[p]?.getD undef = .pointer (some ⟨g, 0, none⟩) := by simpa using hp
  have hq' : tmps[u]?.getD undef = .pointer (some ⟨g', 0, none⟩) := by simpa using hq
  simp [results, h, hp', hq', asAddr, run_loadVar_row w g t ty cs fr d hg hu hd hi, run_loadVar_row w g' t' ty ds fr' d hg' hu hd hi']

/-- What stands while the second is drawn. -/
structure EqS (w0 w : World) (g : Nat) (a : Option Addr) (n cap : Nat) (q1 q2 q3 : Nat) (k m : Int) (a1 : Option Addr) (l1 c1 : Nat) (f : F) (bs : List Nat) (u : World) : Prop where
  kept : Kept w0 w u g a n cap
  res : u.heap[q1]? = some (Obj.cells #[.int .i64 0, .int .i64 0, .slice none 0 0] 25)
  res2 : u.heap[q2]? = some (Obj.cells #[.int .i64 0, .int .i64 0, .slice none 0 0] 25)
  box : u.heap[q3]? = some (Obj.cells #[.int .i64 k, .int .i64 m, .slice a1 l1 c1] 25)
  own : SlO u 25 a1 l1 c1 f bs
  nd : bs.Nodup
  gt : ∀ y ∈ bs, g < y ∧ y < q3
theorem EqS.quiet {w0 w u u' : World} {g n cap q1 q2 q3 : Nat} {a a1 : Option Addr} {k m : Int} {l1 c1 : Nat} {f : F} {bs : List Nat} (h : EqS w0 w g a n cap q1 q2 q3 k m a1 l1 c1 f bs u) (hg : u.grownBy u' Option.none) : EqS w0 w g a n cap q1 q2 q3 k m a1 l1 c1 f bs u' :=
  ⟨h.kept.none hg, (hg.block _ (lt_of_block h.res) (by simp)).trans h.res, (hg.block _ (lt_of_block h.res2) (by simp)).trans h.res2, (hg.block _ (lt_of_block h.box) (by simp)).trans h.box, h.own.old hg, h.nd, h.gt⟩
theorem EqS.cur {w0 w u u' : World} {g n cap q1 q2 q3 : Nat} {a a1 : Option Addr} {k m : Int} {l1 c1 : Nat} {f : F} {bs : List Nat} (h : EqS w0 w g a n cap q1 q2 q3 k m a1 l1 c1 f bs u) (hk : Kept w0 u u' g a n cap) (h0 : q1 < g) (h1 : q2 < g) (h2 : g < q3) : EqS w0 w g a n cap q1 q2 q3 k m a1 l1 c1 f bs u' :=
  ⟨h.kept.trans hk, (hk.2.block _ (lt_of_block h.res) (by simp; omega)).trans h.res, (hk.2.block _ (lt_of_block h.res2) (by simp; omega)).trans h.res2, (hk.2.block _ (lt_of_block h.box) (by simp; omega)).trans h.box, h.own.kept hk.2 (fun y hy => by have := (h.gt y hy).1; simp; omega), h.nd, h.gt⟩

/-- What stands while the answers are laid down. -/
def FinS (w : World) (q1 q2 q3 : Nat) (C1 C2 : Value × Value × Value) (k m : Int) (a1 : Option Addr) (l1 c1 : Nat) (f : F) (bs : List Nat) (a2 : Option Addr) (l2 c2 : Nat) (f2 : F) (bs2 : List Nat) (u : World) : Prop :=
  w.grownBy u none ∧ u.heap[q1]? = some (Obj.cells #[C1.1, C1.2.1, C1.2.2] 25) ∧ u.heap[q2]? = some (Obj.cells #[C2.1, C2.2.1, C2.2.2] 25) ∧ u.heap[q3]? = some (Obj.cells #[.int .i64 k, .int .i64 m, .slice a1 l1 c1] 25) ∧ New w u 25 a1 l1 c1 f bs ∧ New w u 25 a2 l2 c2 f2 bs2 ∧ (∀ y ∈ bs, y ≠ q1 ∧ y ≠ q2) ∧ (∀ y ∈ bs2, y ≠ q1 ∧ y ≠ q2)
theorem FinS.put1 {w u : World} {q1 q2 q3 : Nat} {C1 C2 : Value × Value × Value} {k m : Int} {a1 a2 : Option Addr} {l1 c1 l2 c2 : Nat} {f f2 : F} {bs bs2 : List Nat} (h : FinS w q1 q2 q3 C1 C2 k m a1 l1 c1 f bs a2 l2 c2 f2 bs2 u) (v0 v1 v2 : Value) (h0 : w.heap.size ≤ q1) (h12 : q1 ≠ q2) (h13 : q1 ≠ q3) : FinS w q1 q2 q3 (v0, v1, v2) C2 k m a1 l1 c1 f bs a2 l2 c2 f2 bs2 (((u.setCell ⟨q1, 0, none⟩ v0).setCell ⟨q1, 1, none⟩ v1).setCell ⟨q1, 2, none⟩ v2) := by
  obtain ⟨x1, x2, x3, x4, x5, x6, x7, x8⟩ := h
  obtain ⟨d1, k1⟩ := fill3 v0 v1 v2 x2
  exact ⟨grown_into x1 k1 h0, d1, (k1.block _ (lt_of_block x3) (by simp; omega)).trans x3, (k1.block _ (lt_of_block x4) (by simp; omega)).trans x4, ⟨x5.1.kept k1 (fun y hy => by have := (x7 y hy).1; simp; omega), x5.2⟩, ⟨x6.1.kept k1 (fun y hy => by have := (x8 y hy).1; simp; omega), x6.2⟩, x7, x8⟩
theorem FinS.put2 {w u : World} {q1 q2 q3 : Nat} {C1 C2 : Value × Value × Value} {k m : Int} {a1 a2 : Option Addr} {l1 c1 l2 c2 : Nat} {f f2 : F} {bs bs2 : List Nat} (h : FinS w q1 q2 q3 C1 C2 k m a1 l1 c1 f bs a2 l2 c2 f2 bs2 u) (v0 v1 v2 : Value) (h0 : w.heap.size ≤ q2) (h12 : q1 ≠ q2) (h23 : q2 ≠ q3) : FinS w q1 q2 q3 C1 (v0, v1, v2) k m a1 l1 c1 f bs a2 l2 c2 f2 bs2 (((u.setCell ⟨q2, 0, none⟩ v0).setCell ⟨q2, 1, none⟩ v1).setCell ⟨q2, 2, none⟩ v2) := by
  obtain ⟨x1, x2, x3, x4, x5, x6, x7, x8⟩ := h
  obtain ⟨d1, k1⟩ := fill3 v0 v1 v2 x3
  exact ⟨grown_into x1 k1 h0, (k1.block _ (lt_of_block x2) (by simp; omega)).trans x2, d1, (k1.block _ (lt_of_block x4) (by simp; omega)).trans x4, ⟨x5.1.kept k1 (fun y hy => by have := (x7 y hy).2; simp; omega), x5.2⟩, ⟨x6.1.kept k1 (fun y hy => by have := (x8 y hy).2; simp; omega), x6.2⟩, x7, x8⟩



/-- Two drawn trees are handed back, each in memory of its own. -/
def DrE (w : World) (e : Ending) (u : World) : Prop :=
  ∃ (k m : Int) (f : F) (a1 : Option Addr) (l1 c1 : Nat) (bs : List Nat) (k2 m2 : Int) (f2 : F) (a2 : Option Addr) (l2 c2 : Nat) (bs2 : List Nat), e = .returned (.tuple #[.agg #[.int .i64 k, .int .i64 m, .slice a1 l1 c1], .agg #[.int .i64 k2, .int .i64 m2, .slice a2 l2 c2]]) ∧ w.grownBy u none ∧ New w u 25 a1 l1 c1 f bs ∧ New w u 25 a2 l2 c2 f2 bs2 ∧ f.size ≤ 5000 ∧ f2.size ≤ 5000

set_option maxRecDepth 8000 in
set_option maxHeartbeats 4000000 in
theorem drawEqT (a : Option Addr) (n cap : Nat) (zs : List Int) (w : World) (hr : Reads w a n zs) (hz : Byt zs) (hn : n ≤ 9223372036854775807) :
    Calls Tryd.prog 13 #[.slice a n cap] w fun e u => DrE w e u := by
  have g0 := World.grownBy_alloc w (.cells #[.int .i64 0, .int .i64 0, .slice none 0 0] 25) none
  have g1 := grown_trans g0 (World.grownBy_alloc (w.alloc (.cells #[.int .i64 0, .int .i64 0, .slice none 0 0] 25)) (.cells #[.int .i64 0, .int .i64 0, .slice none 0 0] 25) none)
  have C0 : Hid _ := newT a n cap zs _ (hr.none g1) hz hn
  have L0 : Hid (w.grownBy ((w.alloc (.cells #[.int .i64 0, .int .i64 0, .slice none 0 0] 25)).alloc (.cells #[.int .i64 0, .int .i64 0, .slice none 0 0] 25)) none ∧ ((w.alloc (.cells #[.int .i64 0, .int .i64 0, .slice none 0 0] 25)).alloc (.cells #[.int .i64 0, .int .i64 0, .slice none 0 0] 25)).heap[w.heap.size]? = some (Obj.cells #[.int .i64 0, .int .i64 0, .slice none 0 0] 25) ∧ ((w.alloc (.cells #[.int .i64 0, .int .i64 0, .slice none 0 0] 25)).alloc (.cells #[.int .i64 0, .int .i64 0, .slice none 0 0] 25)).heap[w.heap.size + 1]? = some (Obj.cells #[.int .i64 0, .int .i64 0, .slice none 0 0] 25) ∧ Reads ((w.alloc (.cells #[.int .i64 0, .int .i64 0, .slice none 0 0] 25)).alloc (.cells #[.int .i64 0, .int .i64 0, .slice none 0 0] 25)) a n zs) := ⟨g1, (alloc2_blocks w _ _).1, (alloc2_blocks w _ _).2.1, hr.none g1⟩
  clear g0 g1 hr
  go_enter Tryd.func13, Tryd.ntmps13
  go_wp2_with fail
  generalize (w.alloc (.cells #[.int .i64 0, .int .i64 0, .slice none 0 0] 25)).alloc (.cells #[.int .i64 0, .int .i64 0, .slice none 0 0] 25) = w0 at *
  refine Calls.mono C0.out ?_
  rintro e v1 ⟨g, he, hc, hg⟩
  subst he
  have hq := lt_of_block L0.out.2.1
  have hq' := lt_of_block L0.out.2.2.1
  have hc1 := hc.1
  have C1 : Hid _ := l3anyZ w0 g a n cap zs L0.out.2.2.2 hz hn v1 hc
  have L1 : Hid (Cur w0 v1 g a n cap ∧ v1.heap[w.heap.size]? = some (Obj.cells #[.int .i64 0, .int .i64 0, .slice none 0 0] 25) ∧ v1.heap[w.heap.size + 1]? = some (Obj.cells #[.int .i64 0, .int .i64 0, .slice none 0 0] 25)) := ⟨hc, (hg.block _ hq (by simp)).trans L0.out.2.1, (hg.block _ hq' (by simp)).trans L0.out.2.2.1⟩
  clear hc hg C0
  simp only []
  go_wp2_with fail
  refine Calls.mono C1.out ?_
  rintro e v2 ⟨k, m, f, a1, l1, c1, bs, he, hk, hnw, hfs⟩
  subst he
  have lt2 := lt_of_block L1.out.2.1
  have lt3 := lt_of_block L1.out.2.2
  have hgv : g < v1.heap.size := by obtain ⟨_, _, i, x, hb, _⟩ := L1.out.1; exact lt_of_block hb
  have ga := World.grownBy_alloc v2 (.cells #[.int .i64 k, .int .i64 m, .slice a1 l1 c1] 25) none
  have AL : Hid (EqS w0 v1 g a n cap w.heap.size (w.heap.size + 1) v2.heap.size k m a1 l1 c1 f bs (v2.alloc (.cells #[.int .i64 k, .int .i64 m, .slice a1 l1 c1] 25))) := ⟨hk.none ga, (ga.block _ (Nat.lt_of_lt_of_le lt2 hk.2.size) (by simp)).trans ((hk.2.block _ lt2 (by simp; omega)).trans L1.out.2.1), (ga.block _ (Nat.lt_of_lt_of_le lt3 hk.2.size) (by simp)).trans ((hk.2.block _ lt3 (by simp; omega)).trans L1.out.2.2), heap_alloc_new v2 _, hnw.1.old ga, hnw.2.1, fun y hy => ⟨by have := hnw.2.2 y hy; omega, hnw.1.lt y hy⟩⟩
  have PQ : Hid (w.heap.size + 1 < g ∧ g < v2.heap.size ∧ w0.heap.size ≤ v1.heap.size ∧ v1.heap.size ≤ v2.heap.size ∧ w0.heap.size ≤ g ∧ w.grownBy v1 none) := ⟨by omega, by have := hk.2.size; omega, L1.out.1.2.1.size, hk.2.size, hc1, grown_trans L0.out.1 ⟨L1.out.1.2.1.os, L1.out.1.2.1.tape, L1.out.1.2.1.output, L1.out.1.2.1.size, fun k hk _ => L1.out.1.2.1.block k hk⟩⟩
  clear hk hnw ga lt2 lt3 hgv L1 C1 hc1 hq hq'
  simp only []
  go_wp2_with fail
  generalize v2.alloc (.cells #[.int .i64 k, .int .i64 m, .slice a1 l1 c1] 25) = v3 at *
  generalize v2.heap.size = q3 at *
  generalize eq2 : w.heap.size = q2 at *
  refine Calls.mono (onceT w0 v3 g a n cap zs L0.out.2.2.2 hz hn AL.out.kept.1 2 (by omega) (by omega)) ?_
  rintro e v4 ⟨bb, he, hk⟩
  subst he
  have AN := AL.out.cur hk (by have := PQ.out; omega) (by have := PQ.out; omega) (by have := PQ.out; omega)
  clear AL hk
  have AL : Hid (EqS w0 v1 g a n cap q2 (q2 + 1) q3 k m a1 l1 c1 f bs v4) := AN
  clear AN
  simp only []
  cases bb with
  | true =>
    go_wp2_with fail
    have AD : Hid (EqS w0 v1 g a n cap q2 (q2 + 1) q3 k m a1 l1 c1 f bs v4.drew) := AL.out.quiet (grown_drew (World.grownBy.refl _ Option.none))
    clear AL
    have AL := AD
    clear AD
    refine wp_region_held_drew (S := (fun u => Tri q3 0 (.int .i64 k) (.int .i64 m) (.slice a1 l1 c1) u)) (by kernel_rfl) (three AL.out.box).1 (fun hH => ?_)
    generalize v4.drew = x0 at *
    simp only [List.size_toArray, List.length_cons, List.length_nil, Nat.reduceAdd, Array.replicate, List.replicate]
    refine wpAnyH_take (i := 0) (v := ?_) rfl (by kernel_rfl) (by kernel_rfl) (by kernel_rfl) (fun _ _ _ h => h) (Or.inl ⟨by rfl, ?_⟩) hH ?_
    rotate_left
    · (intro v hS; obtain ⟨s0, s1, s2⟩ := hS; go_simp; try with_reducible rfl)
    simp only [Act.put, List.setIfInBounds_toArray, List.set_cons_zero, List.set_cons_succ, List.getElem_toArray, List.getElem_cons_succ, List.getElem_cons_zero]
    refine wpAnyH_take (i := 1) (v := ?_) rfl (by kernel_rfl) (by kernel_rfl) (by kernel_rfl) (fun _ _ _ h => h) (Or.inl ⟨by rfl, ?_⟩) hH ?_
    rotate_left
    · (intro v hS; obtain ⟨s0, s1, s2⟩ := hS; go_simp; try with_reducible rfl)
    simp only [Act.put, List.setIfInBounds_toArray, List.set_cons_zero, List.set_cons_succ, List.getElem_toArray, List.getElem_cons_succ, List.getElem_cons_zero]
    refine wpAnyH_ready (rs := [2]) (by kernel_rfl) (by simp) ?_
    refine AllReadyH.cons rfl (fun K hK => ?_) AllReadyH.nil
    go_simp
    refine Calls.mono (l3copyT (f.size + 1) f k m a1 l1 c1 x0 (Nat.lt_succ_self _) (by omega) AL.out.own.reads) ?_
    rintro e x1 ⟨b1, e1, bs1, he, hg, hn1, -⟩
    subst he
    have hq3 := lt_of_block AL.out.box
    have AN := AL.out.quiet hg
    have AE : Hid (FinS w q2 (q2 + 1) q3 (.int .i64 0, .int .i64 0, .slice none 0 0) (.int .i64 0, .int .i64 0, .slice none 0 0) k m a1 l1 c1 f bs b1 l1 e1 f bs1 x1) := ⟨grown_into PQ.out.2.2.2.2.2 AN.kept.2 (by have := PQ.out; omega), AN.res, AN.res2, AN.box, ⟨AN.own, AN.nd, fun y hy => by have := (AN.gt y hy).1; have := PQ.out; omega⟩, ⟨hn1.1, hn1.2.1, fun y hy => by have := hn1.2.2 y hy; have := PQ.out; omega⟩, fun y hy => by have := (AN.gt y hy).1; have := PQ.out; omega, fun y hy => by have := hn1.2.2 y hy; have := PQ.out; omega⟩
    refine hK.out _ _ (three AN.box).1 (fun hH2 => ?_)
    clear AL AN hg hn1 hq3
    clear hK K hH
    have hH := hH2
    clear hH2
    simp only [Act.put, List.setIfInBounds_toArray, List.set_cons_zero, List.set_cons_succ, List.getElem_toArray, List.getElem_cons_succ, List.getElem_cons_zero]
    obtain ⟨⟨z0, z1, z2⟩, f0, f1, f2⟩ := three AE.out.2.1
    have AF : Hid (FinS w q2 (q2 + 1) q3 _ _ k m a1 l1 c1 f bs b1 l1 e1 f bs1 _) := AE.out.put1 (.int .i64 k) (.int .i64 m) (.slice a1 l1 c1) (by omega) (by omega) (by have := PQ.out; omega)
    clear AE
    refine wpAnyH_ready (rs := [3]) (by kernel_rfl) (by simp) ?_
    refine AllReadyH.cons rfl (fun K hK => ?_) AllReadyH.nil
    go_simp
    refine hK.out _ _ (three AF.out.2.2.2.1).1 (fun hH2 => ?_)
    clear z0 z1 z2 f0 f1 f2
    clear hK K hH
    have hH := hH2
    clear hH2
    simp only [Act.put, List.setIfInBounds_toArray, List.set_cons_zero, List.set_cons_succ, List.getElem_toArray, List.getElem_cons_succ, List.getElem_cons_zero]
    obtain ⟨⟨z0, z1, z2⟩, f0, f1, f2⟩ := three AF.out.2.2.1
    have AG : Hid (FinS w q2 (q2 + 1) q3 _ _ k m a1 l1 c1 f bs b1 l1 e1 f bs1 _) := AF.out.put2 (.int .i64 k) (.int .i64 m) (.slice b1 l1 e1) (by omega) (by omega) (by have := PQ.out; omega)
    clear AF
    refine wpAnyH_ready (rs := [4]) (by kernel_rfl) (by simp) ?_
    refine AllReadyH.cons rfl (fun K hK => ?_) AllReadyH.nil
    go_simp
    refine hK.out _ _ (three AG.out.2.2.2.1).1 (fun hH2 => ?_)
    clear z0 z1 z2 f0 f1 f2
    clear hK K hH
    have hH := hH2
    clear hH2
    simp only [Act.put, List.setIfInBounds_toArray, List.set_cons_zero, List.set_cons_succ, List.getElem_toArray, List.getElem_cons_succ, List.getElem_cons_zero]
    refine wpAnyH_done (by kernel_rfl) ?_ _
    clear hH
    go_wp2
    (try simp only [Exit.inBlock, Exit.then])
    refine bodyPost_ret (results_cells (P := Tryd.prog) Tryd.results13 _ _ q2 (q2 + 1) _ _ _ _ _ _ _ rfl AG.out.2.1 rfl AG.out.2.2.1 Tryd.underlying25 rfl (by kernel_rfl) (by kernel_rfl)) rfl ?_
    exact ⟨k, m, f, a1, l1, c1, bs, k, m, f, b1, l1, e1, bs1, rfl, AG.out.1, AG.out.2.2.2.2.1, AG.out.2.2.2.2.2.1, hfs, by omega⟩
  | false =>
    go_wp2_with fail
    have AD : Hid (EqS w0 v1 g a n cap q2 (q2 + 1) q3 k m a1 l1 c1 f bs v4.drew) := AL.out.quiet (grown_drew (World.grownBy.refl _ Option.none))
    clear AL
    have AL := AD
    clear AD
    refine wp_region_held_drew (S := (fun u => Tri q3 0 (.int .i64 k) (.int .i64 m) (.slice a1 l1 c1) u)) (by kernel_rfl) (three AL.out.box).1 (fun hH => ?_)
    generalize v4.drew = x0 at *
    simp only [List.size_toArray, List.length_cons, List.length_nil, Nat.reduceAdd, Array.replicate, List.replicate]
    refine wpAnyH_take (i := 0) (v := ?_) rfl (by kernel_rfl) (by kernel_rfl) (by kernel_rfl) (fun _ _ _ h => h) (Or.inl ⟨by rfl, ?_⟩) hH ?_
    rotate_left
    · (intro v hS; obtain ⟨s0, s1, s2⟩ := hS; go_simp; try with_reducible rfl)
    simp only [Act.put, List.setIfInBounds_toArray, List.set_cons_zero, List.set_cons_succ, List.getElem_toArray, List.getElem_cons_succ, List.getElem_cons_zero]
    refine wpAnyH_take (i := 1) (v := ?_) rfl (by kernel_rfl) (by kernel_rfl) (by kernel_rfl) (fun _ _ _ h => h) (Or.inl ⟨by rfl, ?_⟩) hH ?_
    rotate_left
    · (intro v hS; obtain ⟨s0, s1, s2⟩ := hS; go_simp; try with_reducible rfl)
    simp only [Act.put, List.setIfInBounds_toArray, List.set_cons_zero, List.set_cons_succ, List.getElem_toArray, List.getElem_cons_succ, List.getElem_cons_zero]
    refine wpAnyH_ready (rs := [2]) (by kernel_rfl) (by simp) ?_
    refine AllReadyH.cons rfl (fun K hK => ?_) AllReadyH.nil
    go_simp
    refine Calls.mono (l3anyZ w0 g a n cap zs L0.out.2.2.2 hz hn x0 AL.out.kept.1) ?_
    rintro e x1 ⟨k2, m2, ff2, b1, l2, e1, bs1, he, hk, hn1, hf2⟩
    subst he
    have hq3 := lt_of_block AL.out.box
    have AN := AL.out.cur hk (by have := PQ.out; omega) (by have := PQ.out; omega) (by have := PQ.out; omega)
    have AE : Hid (FinS w q2 (q2 + 1) q3 (.int .i64 0, .int .i64 0, .slice none 0 0) (.int .i64 0, .int .i64 0, .slice none 0 0) k m a1 l1 c1 f bs b1 l2 e1 ff2 bs1 x1) := ⟨grown_into PQ.out.2.2.2.2.2 AN.kept.2 (by have := PQ.out; omega), AN.res, AN.res2, AN.box, ⟨AN.own, AN.nd, fun y hy => by have := (AN.gt y hy).1; have := PQ.out; omega⟩, ⟨hn1.1, hn1.2.1, fun y hy => by have := hn1.2.2 y hy; have := PQ.out; omega⟩, fun y hy => by have := (AN.gt y hy).1; have := PQ.out; omega, fun y hy => by have := hn1.2.2 y hy; have := PQ.out; omega⟩
    refine hK.out _ _ (three AN.box).1 (fun hH2 => ?_)
    clear AL AN hk hn1 hq3
    clear hK K hH
    have hH := hH2
    clear hH2
    simp only [Act.put, List.setIfInBounds_toArray, List.set_cons_zero, List.set_cons_succ, List.getElem_toArray, List.getElem_cons_succ, List.getElem_cons_zero]
    obtain ⟨⟨z0, z1, z2⟩, f0, f1, f2⟩ := three AE.out.2.1
    have AF : Hid (FinS w q2 (q2 + 1) q3 _ _ k m a1 l1 c1 f bs b1 l2 e1 ff2 bs1 _) := AE.out.put1 (.int .i64 k) (.int .i64 m) (.slice a1 l1 c1) (by omega) (by omega) (by have := PQ.out; omega)
    clear AE
    refine wpAnyH_ready (rs := [3]) (by kernel_rfl) (by simp) ?_
    refine AllReadyH.cons rfl (fun K hK => ?_) AllReadyH.nil
    go_simp
    refine hK.out _ _ (three AF.out.2.2.2.1).1 (fun hH2 => ?_)
    clear z0 z1 z2 f0 f1 f2
    clear hK K hH
    have hH := hH2
    clear hH2
    simp only [Act.put, List.setIfInBounds_toArray, List.set_cons_zero, List.set_cons_succ, List.getElem_toArray, List.getElem_cons_succ, List.getElem_cons_zero]
    obtain ⟨⟨z0, z1, z2⟩, f0, f1, f2⟩ := three AF.out.2.2.1
    have AG : Hid (FinS w q2 (q2 + 1) q3 _ _ k m a1 l1 c1 f bs b1 l2 e1 ff2 bs1 _) := AF.out.put2 (.int .i64 k2) (.int .i64 m2) (.slice b1 l2 e1) (by omega) (by omega) (by have := PQ.out; omega)
    clear AF
    refine wpAnyH_ready (rs := [4]) (by kernel_rfl) (by simp) ?_
    refine AllReadyH.cons rfl (fun K hK => ?_) AllReadyH.nil
    go_simp
    refine hK.out _ _ (three AG.out.2.2.2.1).1 (fun hH2 => ?_)
    clear z0 z1 z2 f0 f1 f2
    clear hK K hH
    have hH := hH2
    clear hH2
    simp only [Act.put, List.setIfInBounds_toArray, List.set_cons_zero, List.set_cons_succ, List.getElem_toArray, List.getElem_cons_succ, List.getElem_cons_zero]
    refine wpAnyH_done (by kernel_rfl) ?_ _
    clear hH
    go_wp2
    (try simp only [Exit.inBlock, Exit.then])
    refine bodyPost_ret (results_cells (P := Tryd.prog) Tryd.results13 _ _ q2 (q2 + 1) _ _ _ _ _ _ _ rfl AG.out.2.1 rfl AG.out.2.2.1 Tryd.underlying25 rfl (by kernel_rfl) (by kernel_rfl)) rfl ?_
    exact ⟨k, m, f, a1, l1, c1, bs, k2, m2, ff2, b1, l2, e1, bs1, rfl, AG.out.1, AG.out.2.2.2.2.1, AG.out.2.2.2.2.2.1, hfs, by omega⟩
end Go.Proofs.YtjchjdcaampghaaDoor.By
