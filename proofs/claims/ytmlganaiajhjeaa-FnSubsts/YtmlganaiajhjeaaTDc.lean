/-
  A tree and a list of trees that are drawn. No statement is proved here.
-/
import Derived.Test.YtmlganaiajhjeaaTDb
import Derived.Test.YtmlganaiajhjeaaTVb
namespace Go.Proofs.Ytmlganaiajhjeaa.By
open Go.RowKit
set_option linter.unusedVariables false
set_option linter.unusedSimpArgs false

theorem Kept.tn {w0 w u u' : World} {g n cap : Nat} {a : Option Addr} {bl : List Nat} (h : Kept w0 w u g a n cap) (ht : Tn u u' bl) (hb : ∀ y ∈ bl, w.heap.size ≤ y ∧ g < y) (h0 : w0.heap.size ≤ w.heap.size) : Kept w0 w u' g a n cap := by
  obtain ⟨⟨c1', c2', i, x, hbx, hi⟩, hgr⟩ := h
  have hgu := lt_of_block hbx
  exact ⟨⟨c1', ⟨ht.os.trans c2'.os, ht.tape.trans c2'.tape, ht.output.trans c2'.output, Nat.le_trans c2'.size ht.size, fun j hj => (ht.block j (Nat.lt_of_lt_of_le hj c2'.size) (fun hx => by have := (hb j hx).1; omega)).trans (c2'.block j hj)⟩, i, x, (ht.block g hgu (fun hx => by have := (hb g hx).2; omega)).trans hbx, hi⟩, ⟨ht.os.trans hgr.os, ht.tape.trans hgr.tape, ht.output.trans hgr.output, Nat.le_trans hgr.size ht.size, fun j hj hr => (ht.block j (Nat.lt_of_lt_of_le hj hgr.size) (fun hx => by have := (hb j hx).1; omega)).trans (hgr.block j hj hr)⟩⟩

/-- What stands while the list is drawn. -/
structure SbS (w0 w : World) (g : Nat) (a : Option Addr) (n cap : Nat) (q2 q3 : Nat) (k m : Int) (a1 : Option Addr) (l1 c1 : Nat) (f : F) (bs : List Nat) (u : World) : Prop where
  kept : Kept w0 w u g a n cap
  res : u.heap[q2]? = some (Obj.cells #[.int .i64 0, .int .i64 0, .slice none 0 0] 25)
  box : u.heap[q3]? = some (Obj.cells #[.int .i64 k, .int .i64 m, .slice a1 l1 c1] 25)
  own : SlO u 25 a1 l1 c1 f bs
  nd : bs.Nodup
  gt : ∀ y ∈ bs, g < y ∧ y < q3
theorem SbS.quiet {w0 w u u' : World} {g n cap q2 q3 : Nat} {a a1 : Option Addr} {k m : Int} {l1 c1 : Nat} {f : F} {bs : List Nat} (h : SbS w0 w g a n cap q2 q3 k m a1 l1 c1 f bs u) (hg : u.grownBy u' Option.none) : SbS w0 w g a n cap q2 q3 k m a1 l1 c1 f bs u' :=
  ⟨h.kept.none hg, (hg.block _ (lt_of_block h.res) (by simp)).trans h.res, (hg.block _ (lt_of_block h.box) (by simp)).trans h.box, h.own.old hg, h.nd, h.gt⟩
theorem SbS.cur {w0 w u u' : World} {g n cap q2 q3 : Nat} {a a1 : Option Addr} {k m : Int} {l1 c1 : Nat} {f : F} {bs : List Nat} (h : SbS w0 w g a n cap q2 q3 k m a1 l1 c1 f bs u) (hk : Kept w0 u u' g a n cap) (h1 : q2 < g) (h2 : g < q3) : SbS w0 w g a n cap q2 q3 k m a1 l1 c1 f bs u' :=
  ⟨h.kept.trans hk, (hk.2.block _ (lt_of_block h.res) (by simp; omega)).trans h.res, (hk.2.block _ (lt_of_block h.box) (by simp; omega)).trans h.box, h.own.kept hk.2 (fun y hy => by have := (h.gt y hy).1; simp; omega), h.nd, h.gt⟩
theorem SbS.tn {w0 w u u' : World} {g n cap q2 q3 : Nat} {a a1 : Option Addr} {k m : Int} {l1 c1 : Nat} {f : F} {bs bl : List Nat} (h : SbS w0 w g a n cap q2 q3 k m a1 l1 c1 f bs u) (ht : Tn u u' bl) (hb : ∀ y ∈ bl, q3 < y) (h0 : w0.heap.size ≤ w.heap.size) (h1 : q2 < g) (h2 : g < q3) (h3 : w.heap.size ≤ q3) : SbS w0 w g a n cap q2 q3 k m a1 l1 c1 f bs u' :=
  ⟨h.kept.tn ht (fun y hy => by have := hb y hy; omega) h0, (ht.block _ (lt_of_block h.res) (fun hx => by have := hb _ hx; omega)).trans h.res, (ht.block _ (lt_of_block h.box) (fun hx => by have := hb _ hx; omega)).trans h.box, h.own.of (fun y hy => ht.block y (h.own.lt y hy) (fun hx => by have := hb y hx; have := (h.gt y hy).2; omega)), h.nd, h.gt⟩

/-- A drawn tree and a drawn list are handed back, in memory of their own. -/
def DrS (w : World) (e : Ending) (u : World) : Prop :=
  ∃ (k m : Int) (f : F) (a1 : Option Addr) (l1 c1 : Nat) (bs : List Nat) (aL : Option Addr) (lL cL : Nat) (E : F) (bsL : List Nat), e = .returned (.tuple #[.agg #[.int .i64 k, .int .i64 m, .slice a1 l1 c1], .slice aL lL cL]) ∧ w.grownBy u none ∧ New w u 25 a1 l1 c1 f bs ∧ New w u 25 aL lL cL E bsL ∧ lL ≤ 4 ∧ (∀ x ∈ bs, x ∉ bsL)

set_option maxRecDepth 8000 in
set_option maxHeartbeats 4000000 in
theorem drawSubT (a : Option Addr) (n cap : Nat) (zs : List Int) (w : World) (hr : Reads w a n zs) (hz : Byt zs) (hn : n ≤ 9223372036854775807) :
    Calls Try.prog 8 #[.slice a n cap] w fun e u => DrS w e u := by
  have g0 := World.grownBy_alloc w (.cells #[.int .i64 0, .int .i64 0, .slice none 0 0] 25) none
  have C0 : Hid _ := newT a n cap zs _ (hr.none g0) hz hn
  have L0 : Hid (w.grownBy (w.alloc (.cells #[.int .i64 0, .int .i64 0, .slice none 0 0] 25)) none ∧ (w.alloc (.cells #[.int .i64 0, .int .i64 0, .slice none 0 0] 25)).heap[w.heap.size]? = some (Obj.cells #[.int .i64 0, .int .i64 0, .slice none 0 0] 25) ∧ Reads (w.alloc (.cells #[.int .i64 0, .int .i64 0, .slice none 0 0] 25)) a n zs) := ⟨g0, heap_alloc_new w _, hr.none g0⟩
  clear g0 hr
  go_enter Try.func8, Try.ntmps8
  go_wp2_with fail
  generalize w.alloc (.cells #[.int .i64 0, .int .i64 0, .slice none 0 0] 25) = w0 at *
  refine Calls.mono C0.out ?_
  rintro e v1 ⟨g, he, hc, hg⟩
  subst he
  have hq := lt_of_block L0.out.2.1
  have hc1 := hc.1
  have C1 : Hid _ := l3anyT w0 g a n cap zs L0.out.2.2 hz hn v1 hc
  have L1 : Hid (Cur w0 v1 g a n cap ∧ v1.heap[w.heap.size]? = some (Obj.cells #[.int .i64 0, .int .i64 0, .slice none 0 0] 25)) := ⟨hc, (hg.block _ hq (by simp)).trans L0.out.2.1⟩
  clear hc hg C0
  simp only []
  go_wp2_with fail
  refine Calls.mono C1.out ?_
  rintro e v2 ⟨k, m, f, a1, l1, c1, bs, he, hk, hnw⟩
  subst he
  have lt2 := lt_of_block L1.out.2
  have hgv : g < v1.heap.size := by obtain ⟨_, _, i, x, hb, _⟩ := L1.out.1; exact lt_of_block hb
  have ga := World.grownBy_alloc v2 (.cells #[.int .i64 k, .int .i64 m, .slice a1 l1 c1] 25) none
  have AL : Hid (SbS w0 v1 g a n cap w.heap.size v2.heap.size k m a1 l1 c1 f bs (v2.alloc (.cells #[.int .i64 k, .int .i64 m, .slice a1 l1 c1] 25))) := ⟨hk.none ga, (ga.block _ (Nat.lt_of_lt_of_le lt2 hk.2.size) (by simp)).trans ((hk.2.block _ lt2 (by simp; omega)).trans L1.out.2), heap_alloc_new v2 _, hnw.1.old ga, hnw.2.1, fun y hy => ⟨by have := hnw.2.2 y hy; omega, hnw.1.lt y hy⟩⟩
  have PQ : Hid (w.heap.size < g ∧ g < v2.heap.size ∧ w0.heap.size ≤ v1.heap.size ∧ v1.heap.size ≤ v2.heap.size ∧ w0.heap.size ≤ g ∧ w.grownBy v1 none) := ⟨by omega, by have := hk.2.size; omega, L1.out.1.2.1.size, hk.2.size, hc1, grown_trans L0.out.1 (grown_of_belowV L1.out.1.2.1)⟩
  clear hk hnw ga lt2 hgv L1 C1 hc1 hq
  simp only []
  go_wp2_with fail
  generalize v2.alloc (.cells #[.int .i64 k, .int .i64 m, .slice a1 l1 c1] 25) = v3 at *
  generalize v2.heap.size = q3 at *
  generalize eq2 : w.heap.size = q2 at *
  refine Calls.mono (belowT w0 v3 g a n cap zs L0.out.2.2 hz hn AL.out.kept.1 5 (by omega) (by omega)) ?_
  rintro e v4 ⟨x, he, hx0, hx1, hk⟩
  subst he
  have AN := AL.out.cur hk (by have := PQ.out; omega) (by have := PQ.out; omega)
  clear AL hk
  have AL : Hid (SbS w0 v1 g a n cap q2 q3 k m a1 l1 c1 f bs v4) := AN
  clear AN
  obtain ⟨xn, rfl⟩ : ∃ xn : Nat, x = (xn : Int) := ⟨x.toNat, by omega⟩
  obtain ⟨i0, hi, hi0, hi1, hi2⟩ := info_parts infoT
  simp only []
  go_wp2
  go_loopw [7, 8] (fun v i wr => ∃ (j : Nat) (P : F) (av : Option Addr) (cv : Nat) (bl : List Nat), j ≤ xn ∧ i = .int .i64 j ∧ v = .slice av j cv ∧ Hid (SbS w0 v1 g a n cap q2 q3 k m a1 l1 c1 f bs wr ∧ SlO wr 25 av j cv P bl ∧ bl.Nodup ∧ (∀ y ∈ bl, q3 < y) ∧ (cv = 0 → av = none))) (fun _ i _ => xn - (intOf i).toNat)
  case atStart => exact ⟨0, .nil, none, 0, [], Nat.zero_le _, rfl, rfl, AL.out, (New.nil v4 v4 25).1, List.nodup_nil, fun y hy => by simp at hy, fun _ => rfl⟩
  case round =>
    clear AL
    obtain ⟨j, P, av, cv, bl, hj, rfl, rfl, LI⟩ := hrel
    by_cases hlt : j < xn
    · have hlt' : (j : Int) < xn := by omega
      have C2 : Hid _ := l3anyT w0 g a n cap zs L0.out.2.2 hz hn wr LI.out.1.kept.1
      go_wp2_with fail
      refine Calls.mono C2.out ?_
      rintro e y1 ⟨k2, m2, f2, a2, l2, c2, bs2, he, hk, hn2⟩
      subst he
      obtain ⟨AL, acc, nd, gt, na⟩ := LI.out
      have hq3 := lt_of_block AL.box
      have LB : Hid (SbS w0 v1 g a n cap q2 q3 k m a1 l1 c1 f bs y1 ∧ SlO y1 25 av j cv P bl ∧ SlO y1 25 a2 l2 c2 f2 bs2 ∧ bl.Nodup ∧ bs2.Nodup ∧ (∀ y ∈ bl, q3 < y) ∧ (∀ y ∈ bs2, q3 < y) ∧ (∀ y ∈ bl, y ∉ bs2) ∧ (cv = 0 → av = none)) := ⟨AL.cur hk (by have := PQ.out; omega) (by have := PQ.out; omega), acc.kept hk.2 (fun y hy => by have := gt y hy; have := PQ.out; simp; omega), hn2.1, nd, hn2.2.1, gt, fun y hy => by have := hn2.2.2 y hy; omega, fun y hy hy2 => by have := acc.lt y hy; have := hn2.2.2 y hy2; omega, na⟩
      clear C2 hk hn2 AL acc nd gt na LI hq3
      have ga := World.grownBy_alloc y1 (.cells #[.int .i64 k2, .int .i64 m2, .slice a2 l2 c2] 25) none
      have bB := three (heap_alloc_new y1 (.cells #[.int .i64 k2, .int .i64 m2, .slice a2 l2 c2] 25))
      have NW : Hid _ := news3 bB.1.1 bB.1.2.1 bB.1.2.2
      have LC : Hid (SbS w0 v1 g a n cap q2 q3 k m a1 l1 c1 f bs (y1.alloc (.cells #[.int .i64 k2, .int .i64 m2, .slice a2 l2 c2] 25)) ∧ SlO (y1.alloc (.cells #[.int .i64 k2, .int .i64 m2, .slice a2 l2 c2] 25)) 25 av j cv P bl ∧ SlO (y1.alloc (.cells #[.int .i64 k2, .int .i64 m2, .slice a2 l2 c2] 25)) 25 a2 l2 c2 f2 bs2 ∧ q3 < (y1.alloc (.cells #[.int .i64 k2, .int .i64 m2, .slice a2 l2 c2] 25)).heap.size) := ⟨LB.out.1.quiet ga, LB.out.2.1.old ga, LB.out.2.2.1.old ga, by have := lt_of_block LB.out.1.box; have := ga.size; omega⟩
      clear ga bB
      simp only []
      go_wp2_with (at_builtin; go_must (refine wpList_pushT rfl _ _ 23 rfl 25 i0 _ Try.underlying23 hi hi0 hi1 hi2 rfl av j cv P bl rfl LC.out.2.1 LB.out.2.2.2.1 LB.out.2.2.2.2.2.2.2.2 (by omega) ⟨y1.heap.size, 0, none⟩ rfl k2 m2 a2 l2 c2 NW.out f2 bs2 LC.out.2.2.1 LB.out.2.2.2.2.1 LB.out.2.2.2.2.2.2.2.1 ?_); intro a3 c3 bs3 y3 h1 h2 h3 h4 h5)
      have LN : Hid (SbS w0 v1 g a n cap q2 q3 k m a1 l1 c1 f bs y3 ∧ SlO y3 25 a3 (j + 1) c3 (P.app (.cons k2 m2 f2 .nil)) bs3 ∧ bs3.Nodup ∧ (∀ y ∈ bs3, q3 < y) ∧ (c3 = 0 → a3 = none)) := ⟨LC.out.1.tn h4 LB.out.2.2.2.2.2.1 (by have := PQ.out; omega) (by have := PQ.out; omega) (by have := PQ.out; omega) (by have := PQ.out; omega), h1, h2, fun y hy => by
        rcases h3 y hy with hy | hy | hy
        · exact LB.out.2.2.2.2.2.1 y hy
        · exact LB.out.2.2.2.2.2.2.1 y hy
        · have := LC.out.2.2.2; omega, fun h => by omega⟩
      clear h1 h2 h3 h4 h5 LB LC NW
      go_roundw
      case rel => exact ⟨j + 1, _, a3, c3, bs3, by omega, by go_num, rfl, LN⟩
      case measure => simp [intOf]; omega
    · obtain rfl : j = xn := by omega
      obtain ⟨AL, acc, nd, gt, na⟩ := LI.out
      have n23 : q2 ≠ q3 := by have := PQ.out; omega
      obtain ⟨⟨y0, y1, y2⟩, -⟩ := three AL.box
      obtain ⟨⟨z0, z1, z2⟩, f0, f1, f2⟩ := three AL.res
      obtain ⟨d1, k1⟩ := fill3 (.int .i64 k) (.int .i64 m) (.slice a1 l1 c1) AL.res
      have gw : w.grownBy wr none := grown_into PQ.out.2.2.2.2.2 AL.kept.2 (by have := PQ.out; omega)
      have FQ : Hid (_ ∧ w.grownBy _ none ∧ New w _ 25 a1 l1 c1 f bs ∧ New w _ 25 av j cv P bl) := ⟨d1, grown_into gw k1 (by omega), ⟨AL.own.kept k1 (fun y hy => by have := (AL.gt y hy).1; have := PQ.out; simp; omega), AL.nd, fun y hy => by have := (AL.gt y hy).1; have := PQ.out; omega⟩, ⟨acc.kept k1 (fun y hy => by have := gt y hy; have := PQ.out; simp; omega), nd, fun y hy => by have := gt y hy; have := PQ.out; omega⟩⟩
      have hdis : ∀ x ∈ bs, x ∉ bl := fun x hx hx2 => by have := (AL.gt x hx).2; have := gt x hx2; omega
      clear d1 k1 gw AL acc nd gt na LI
      go_wp2
      (try simp only [Exit.inBlock, Exit.then])
      refine bodyPost_ret (results_cell2 (P := Try.prog) Try.results8 _ _ q2 _ _ _ _ rfl FQ.out.1 Try.underlying25 rfl (by kernel_rfl)) rfl ?_
      exact ⟨k, m, f, a1, l1, c1, bs, av, j, cv, P, bl, rfl, FQ.out.2.1, FQ.out.2.2.1, FQ.out.2.2.2, by omega, hdis⟩
end Go.Proofs.Ytmlganaiajhjeaa.By
