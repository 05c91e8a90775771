/-
  Trees that are drawn. No statement is proved here.
-/
import Derived.Test.YtmlganaiajhjeaaDrawNAlso
import Derived.Test.YtmlganaiajhjeaaTCp
import Derived.Test.YtmlganaiajhjeaaURAlso
namespace Go.Proofs.Ytmlganaiajhjeaa.By
open Go.RowKit
set_option linter.unusedVariables false
set_option linter.unusedSimpArgs false

theorem wide_noneV {a b : World} (h : a.grownBy b none) (row : Option Nat) : a.grownBy b row := ⟨h.os, h.tape, h.output, h.size, fun i hi _ => h.block i hi (by simp)⟩
theorem grown_intoV {a w w' : World} {p : Nat} {row : Option Nat} (h : a.grownBy w row) (k : w.grownBy w' (some p)) (hp : a.heap.size ≤ p) : a.grownBy w' row :=
  ⟨k.os.trans h.os, k.tape.trans h.tape, k.output.trans h.output, Nat.le_trans h.size k.size, fun i hi hr => (k.block i (Nat.lt_of_lt_of_le hi h.size) (by simp; omega)).trans (h.block i hi hr)⟩
theorem Kept.into {w0 w u u' : World} {g n cap p : Nat} {a : Option Addr} (h : Kept w0 w u g a n cap) (k : u.grownBy u' (some p)) (hp : w.heap.size ≤ p) (hg : g ≠ p) (h0 : w0.heap.size ≤ w.heap.size) : Kept w0 w u' g a n cap :=
  ⟨h.1.kept k (by simp; omega) (fun i hi => by cases hi; omega), grown_intoV h.2 k hp⟩
theorem Kept.none {w0 w u u' : World} {g n cap : Nat} {a : Option Addr} (h : Kept w0 w u g a n cap) (k : u.grownBy u' Option.none) : Kept w0 w u' g a n cap := ⟨h.1.none k, grown_trans h.2 (wide_noneV k _)⟩
theorem lit1 {v : World} {k n : Int} {d : F} {a : Option Addr} {l c : Nat} {bs : List Nat} (h : SlO v 25 a l c d bs) : SlO (v.alloc (.cells #[.int .i64 k, .int .i64 n, .slice a l c] 25)) 25 (some ⟨v.heap.size, 0, none⟩) 1 1 (.cons k n d .nil) (v.heap.size :: bs) := by
  have hb := heap_alloc_new v (.cells #[.int .i64 k, .int .i64 n, .slice a l c] 25)
  obtain ⟨⟨z0, z1, z2⟩, -⟩ := three hb
  exact ⟨rfl, by omega, by omega, .inr ⟨_, bs, by omega, rfl, rfl, ⟨_, hb, rfl⟩, OwnF.one z0 z1 z2 (h.old (World.grownBy_alloc _ _ _))⟩⟩
theorem six {w : World} {g : Nat} {t : TypeId} {c0 c1 c2 c3 c4 c5 : Value} (h : w.heap[g]? = some (.cells #[c0, c1, c2, c3, c4, c5] t (0, 0))) :
    w.cell? ⟨g, 0, none⟩ = some c0 ∧ w.cell? ⟨g, 1, none⟩ = some c1 ∧ w.cell? ⟨g, 2, none⟩ = some c2 ∧ w.cell? ⟨g, 3, none⟩ = some c3 ∧ w.cell? ⟨g, 4, none⟩ = some c4 ∧ w.cell? ⟨g, 5, none⟩ = some c5 := by
  simp [World.cell?, h]
theorem lit2 {v : World} {k n k' n' : Int} {d d' : F} {a a' : Option Addr} {l c l' c' : Nat} {bs bs' : List Nat} (h : SlO v 25 a l c d bs) (h' : SlO v 25 a' l' c' d' bs') : SlO (v.alloc (.cells #[.int .i64 k, .int .i64 n, .slice a l c, .int .i64 k', .int .i64 n', .slice a' l' c'] 25)) 25 (some ⟨v.heap.size, 0, none⟩) 2 2 (.cons k n d (.cons k' n' d' .nil)) (v.heap.size :: (bs ++ bs')) := by
  have hb := heap_alloc_new v (.cells #[.int .i64 k, .int .i64 n, .slice a l c, .int .i64 k', .int .i64 n', .slice a' l' c'] 25)
  obtain ⟨z0, z1, z2, z3, z4, z5⟩ := six hb
  have g0 := World.grownBy_alloc v (.cells #[.int .i64 k, .int .i64 n, .slice a l c, .int .i64 k', .int .i64 n', .slice a' l' c'] 25) none
  exact ⟨rfl, by omega, by omega, .inr ⟨_, _, by omega, rfl, rfl, ⟨_, hb, rfl⟩, OwnF.mk z0 z1 z2 (h.old g0) (OwnF.one z3 z4 z5 (h'.old g0))⟩⟩

/-- A tree is handed back, in memory of its own; the cursor has moved. -/
def DrT (w0 w : World) (g : Nat) (a : Option Addr) (n cap : Nat) (S : Nat) (e : Ending) (u : World) : Prop :=
  ∃ (k m : Int) (f : F) (a' : Option Addr) (l' c' : Nat) (bs : List Nat), e = .returned (.agg #[.int .i64 k, .int .i64 m, .slice a' l' c']) ∧ Kept w0 w u g a n cap ∧ New w u 25 a' l' c' f bs ∧ (c' = 0 → a' = none) ∧ f.size + 1 < S









set_option maxRecDepth 8000 in
set_option maxHeartbeats 4000000 in
theorem l3tyT (w0 : World) (g : Nat) (a : Option Addr) (n cap : Nat) (zs : List Int) (hr : Reads w0 a n zs) (hz : Byt zs) (hn : n ≤ 9223372036854775807) (vars datas : Int) (hv0 : 0 < vars) (hv1 : vars ≤ 100) (hs0 : 0 < datas) (hs1 : datas ≤ 100) (dp : Nat) : ∀ (w : World), dp ≤ 100 → Cur w0 w g a n cap →
    Calls Try.prog 51 #[.pointer (some ⟨g, 0, none⟩), .int .i64 dp, .int .i64 vars, .int .i64 datas] w fun e u => DrT w0 w g a n cap (2 ^ (dp + 1)) e u := by
  induction dp with
  | zero =>
    intro w _ hc
    have g0 := World.grownBy_alloc w (.cells #[.int .i64 0, .int .i64 0, .slice none 0 0] 25) none
    have LV : Hid (Kept w0 w (w.alloc (.cells #[.int .i64 0, .int .i64 0, .slice none 0 0] 25)) g a n cap ∧ (w.alloc (.cells #[.int .i64 0, .int .i64 0, .slice none 0 0] 25)).heap[w.heap.size]? = some (Obj.cells #[.int .i64 0, .int .i64 0, .slice none 0 0] 25)) := ⟨⟨hc.none g0, wide_noneV g0 _⟩, heap_alloc_new w _⟩
    have hgl : g < w.heap.size := by obtain ⟨_, _, i, x, hb, _⟩ := hc; exact lt_of_block hb
    have PQ : Hid (w.heap.size = w.heap.size ∧ g < w.heap.size ∧ w0.heap.size ≤ w.heap.size) := ⟨rfl, hgl, hc.2.1.size⟩
    clear g0 hgl hc
    go_enter Try.func51, Try.ntmps51
    go_wp2_with fail
    generalize w.alloc (.cells #[.int .i64 0, .int .i64 0, .slice none 0 0] 25) = u0 at *
    generalize hq8 : w.heap.size = q8 at *
    refine Calls.mono (belowT w0 u0 g a n cap zs hr hz hn LV.out.1.1 9 (by omega) (by omega)) ?_
    rintro e u1 ⟨x0, he, hx0x0, hx1x0, hk⟩
    subst he
    have LW : Hid (Kept w0 w u1 g a n cap ∧ u1.heap[q8]? = some (Obj.cells #[.int .i64 0, .int .i64 0, .slice none 0 0] 25)) := ⟨LV.out.1.trans hk, (hk.2.block _ (lt_of_block LV.out.2) (by have := PQ.out; simp; omega)).trans LV.out.2⟩
    clear LV hk
    have LV := LW
    clear LW
    simp only []
    go_wp2_with fail
    refine Calls.mono (belowT w0 u1 g a n cap zs hr hz hn LV.out.1.1 4 (by omega) (by omega)) ?_
    rintro e u2 ⟨x, he, hx0x, hx1x, hk⟩
    subst he
    have LW : Hid (Kept w0 w u2 g a n cap ∧ u2.heap[q8]? = some (Obj.cells #[.int .i64 0, .int .i64 0, .slice none 0 0] 25)) := ⟨LV.out.1.trans hk, (hk.2.block _ (lt_of_block LV.out.2) (by have := PQ.out; simp; omega)).trans LV.out.2⟩
    clear LV hk
    have LV := LW
    clear LW
    simp only []
    clear hx0x0 hx1x0
    by_cases hx0 : x = 0
    · subst hx0
      obtain ⟨⟨z0, z1, z2⟩, f0, f1, f2⟩ := three LV.out.2
      obtain ⟨d1, k1⟩ := fill3 (.int .i64 0) (.int .i64 0) (.slice none 0 0) LV.out.2
      have FQ : Hid (_ ∧ Kept w0 w _ g a n cap) := ⟨d1, LV.out.1.into k1 (by have := PQ.out; omega) (by have := PQ.out; omega) (by have := PQ.out; omega)⟩
      clear d1 k1 LV
      go_wp2
      (try simp only [Exit.inBlock, Exit.then])
      refine bodyPost_ret (results_cell_row (P := Try.prog) Try.results51 _ _ q8 _ _ _ _ rfl FQ.out.1 Try.underlying25 rfl (by kernel_rfl)) rfl ?_
      exact ⟨0, 0, .nil, none, 0, 0, [], rfl, FQ.out.2, New.nil _ _ _, (fun _ => rfl), (by simp [F.size])⟩
    by_cases hx1 : x = 1
    · subst hx1
      obtain ⟨⟨z0, z1, z2⟩, f0, f1, f2⟩ := three LV.out.2
      obtain ⟨d1, k1⟩ := fill3 (.int .i64 1) (.int .i64 0) (.slice none 0 0) LV.out.2
      have FQ : Hid (_ ∧ Kept w0 w _ g a n cap) := ⟨d1, LV.out.1.into k1 (by have := PQ.out; omega) (by have := PQ.out; omega) (by have := PQ.out; omega)⟩
      clear d1 k1 LV
      go_wp2
      (try simp only [Exit.inBlock, Exit.then])
      refine bodyPost_ret (results_cell_row (P := Try.prog) Try.results51 _ _ q8 _ _ _ _ rfl FQ.out.1 Try.underlying25 rfl (by kernel_rfl)) rfl ?_
      exact ⟨1, 0, .nil, none, 0, 0, [], rfl, FQ.out.2, New.nil _ _ _, (fun _ => rfl), (by simp [F.size])⟩
    by_cases hx2 : x = 2
    · subst hx2
      obtain ⟨⟨z0, z1, z2⟩, f0, f1, f2⟩ := three LV.out.2
      obtain ⟨d1, k1⟩ := fill3 (.int .i64 2) (.int .i64 0) (.slice none 0 0) LV.out.2
      have FQ : Hid (_ ∧ Kept w0 w _ g a n cap) := ⟨d1, LV.out.1.into k1 (by have := PQ.out; omega) (by have := PQ.out; omega) (by have := PQ.out; omega)⟩
      clear d1 k1 LV
      go_wp2
      (try simp only [Exit.inBlock, Exit.then])
      refine bodyPost_ret (results_cell_row (P := Try.prog) Try.results51 _ _ q8 _ _ _ _ rfl FQ.out.1 Try.underlying25 rfl (by kernel_rfl)) rfl ?_
      exact ⟨2, 0, .nil, none, 0, 0, [], rfl, FQ.out.2, New.nil _ _ _, (fun _ => rfl), (by simp [F.size])⟩
    by_cases hx3 : x = 3
    · subst hx3
      go_wp2_with fail
      refine Calls.mono (belowT w0 u2 g a n cap zs hr hz hn LV.out.1.1 vars (by omega) (by omega)) ?_
      rintro e u4 ⟨y, he, hx0y, hx1y, hk⟩
      subst he
      have LW : Hid (Kept w0 w u4 g a n cap ∧ u4.heap[q8]? = some (Obj.cells #[.int .i64 0, .int .i64 0, .slice none 0 0] 25)) := ⟨LV.out.1.trans hk, (hk.2.block _ (lt_of_block LV.out.2) (by have := PQ.out; simp; omega)).trans LV.out.2⟩
      clear LV hk
      have LV := LW
      clear LW
      simp only []
      obtain ⟨⟨z0, z1, z2⟩, f0, f1, f2⟩ := three LV.out.2
      obtain ⟨d1, k1⟩ := fill3 (.int .i64 7) (.int .i64 y) (.slice none 0 0) LV.out.2
      have FQ : Hid (_ ∧ Kept w0 w _ g a n cap) := ⟨d1, LV.out.1.into k1 (by have := PQ.out; omega) (by have := PQ.out; omega) (by have := PQ.out; omega)⟩
      clear d1 k1 LV
      go_wp2
      (try simp only [Exit.inBlock, Exit.then])
      refine bodyPost_ret (results_cell_row (P := Try.prog) Try.results51 _ _ q8 _ _ _ _ rfl FQ.out.1 Try.underlying25 rfl (by kernel_rfl)) rfl ?_
      exact ⟨7, y, .nil, none, 0, 0, [], rfl, FQ.out.2, New.nil _ _ _, (fun _ => rfl), (by simp [F.size])⟩
    omega
  | succ dp ih =>
    intro w hdp hc
    have IH : Hid _ := ih
    have g0 := World.grownBy_alloc w (.cells #[.int .i64 0, .int .i64 0, .slice none 0 0] 25) none
    have LV : Hid (Kept w0 w (w.alloc (.cells #[.int .i64 0, .int .i64 0, .slice none 0 0] 25)) g a n cap ∧ (w.alloc (.cells #[.int .i64 0, .int .i64 0, .slice none 0 0] 25)).heap[w.heap.size]? = some (Obj.cells #[.int .i64 0, .int .i64 0, .slice none 0 0] 25)) := ⟨⟨hc.none g0, wide_noneV g0 _⟩, heap_alloc_new w _⟩
    have hgl : g < w.heap.size := by obtain ⟨_, _, i, x, hb, _⟩ := hc; exact lt_of_block hb
    have PQ : Hid (w.heap.size = w.heap.size ∧ g < w.heap.size ∧ w0.heap.size ≤ w.heap.size) := ⟨rfl, hgl, hc.2.1.size⟩
    have hpw : 4 ≤ 2 ^ (dp + 1 + 1) := by have := Nat.one_le_two_pow (n := dp); simp only [Nat.pow_succ]; omega
    clear g0 hgl hc ih
    go_enter Try.func51, Try.ntmps51
    go_wp2_with fail
    generalize w.alloc (.cells #[.int .i64 0, .int .i64 0, .slice none 0 0] 25) = u0 at *
    generalize hq8 : w.heap.size = q8 at *
    refine Calls.mono (belowT w0 u0 g a n cap zs hr hz hn LV.out.1.1 9 (by omega) (by omega)) ?_
    rintro e u2 ⟨x, he, hx0x, hx1x, hk⟩
    subst he
    have LW : Hid (Kept w0 w u2 g a n cap ∧ u2.heap[q8]? = some (Obj.cells #[.int .i64 0, .int .i64 0, .slice none 0 0] 25)) := ⟨LV.out.1.trans hk, (hk.2.block _ (lt_of_block LV.out.2) (by have := PQ.out; simp; omega)).trans LV.out.2⟩
    clear LV hk
    have LV := LW
    clear LW
    simp only []
    by_cases hx0 : x = 0
    · subst hx0
      obtain ⟨⟨z0, z1, z2⟩, f0, f1, f2⟩ := three LV.out.2
      obtain ⟨d1, k1⟩ := fill3 (.int .i64 0) (.int .i64 0) (.slice none 0 0) LV.out.2
      have FQ : Hid (_ ∧ Kept w0 w _ g a n cap) := ⟨d1, LV.out.1.into k1 (by have := PQ.out; omega) (by have := PQ.out; omega) (by have := PQ.out; omega)⟩
      clear d1 k1 LV
      go_wp2
      (try simp only [Exit.inBlock, Exit.then])
      refine bodyPost_ret (results_cell_row (P := Try.prog) Try.results51 _ _ q8 _ _ _ _ rfl FQ.out.1 Try.underlying25 rfl (by kernel_rfl)) rfl ?_
      exact ⟨0, 0, .nil, none, 0, 0, [], rfl, FQ.out.2, New.nil _ _ _, (fun _ => rfl), (by simp only [F.size]; omega)⟩
    by_cases hx1 : x = 1
    · subst hx1
      obtain ⟨⟨z0, z1, z2⟩, f0, f1, f2⟩ := three LV.out.2
      obtain ⟨d1, k1⟩ := fill3 (.int .i64 1) (.int .i64 0) (.slice none 0 0) LV.out.2
      have FQ : Hid (_ ∧ Kept w0 w _ g a n cap) := ⟨d1, LV.out.1.into k1 (by have := PQ.out; omega) (by have := PQ.out; omega) (by have := PQ.out; omega)⟩
      clear d1 k1 LV
      go_wp2
      (try simp only [Exit.inBlock, Exit.then])
      refine bodyPost_ret (results_cell_row (P := Try.prog) Try.results51 _ _ q8 _ _ _ _ rfl FQ.out.1 Try.underlying25 rfl (by kernel_rfl)) rfl ?_
      exact ⟨1, 0, .nil, none, 0, 0, [], rfl, FQ.out.2, New.nil _ _ _, (fun _ => rfl), (by simp only [F.size]; omega)⟩
    by_cases hx2 : x = 2
    · subst hx2
      obtain ⟨⟨z0, z1, z2⟩, f0, f1, f2⟩ := three LV.out.2
      obtain ⟨d1, k1⟩ := fill3 (.int .i64 2) (.int .i64 0) (.slice none 0 0) LV.out.2
      have FQ : Hid (_ ∧ Kept w0 w _ g a n cap) := ⟨d1, LV.out.1.into k1 (by have := PQ.out; omega) (by have := PQ.out; omega) (by have := PQ.out; omega)⟩
      clear d1 k1 LV
      go_wp2
      (try simp only [Exit.inBlock, Exit.then])
      refine bodyPost_ret (results_cell_row (P := Try.prog) Try.results51 _ _ q8 _ _ _ _ rfl FQ.out.1 Try.underlying25 rfl (by kernel_rfl)) rfl ?_
      exact ⟨2, 0, .nil, none, 0, 0, [], rfl, FQ.out.2, New.nil _ _ _, (fun _ => rfl), (by simp only [F.size]; omega)⟩
    by_cases hx3 : x = 3
    · subst hx3
      go_wp2_with fail
      refine Calls.mono (belowT w0 u2 g a n cap zs hr hz hn LV.out.1.1 vars (by omega) (by omega)) ?_
      rintro e u4 ⟨y, he, hx0y, hx1y, hk⟩
      subst he
      have LW : Hid (Kept w0 w u4 g a n cap ∧ u4.heap[q8]? = some (Obj.cells #[.int .i64 0, .int .i64 0, .slice none 0 0] 25)) := ⟨LV.out.1.trans hk, (hk.2.block _ (lt_of_block LV.out.2) (by have := PQ.out; simp; omega)).trans LV.out.2⟩
      clear LV hk
      have LV := LW
      clear LW
      simp only []
      obtain ⟨⟨z0, z1, z2⟩, f0, f1, f2⟩ := three LV.out.2
      obtain ⟨d1, k1⟩ := fill3 (.int .i64 7) (.int .i64 y) (.slice none 0 0) LV.out.2
      have FQ : Hid (_ ∧ Kept w0 w _ g a n cap) := ⟨d1, LV.out.1.into k1 (by have := PQ.out; omega) (by have := PQ.out; omega) (by have := PQ.out; omega)⟩
      clear d1 k1 LV
      go_wp2
      (try simp only [Exit.inBlock, Exit.then])
      refine bodyPost_ret (results_cell_row (P := Try.prog) Try.results51 _ _ q8 _ _ _ _ rfl FQ.out.1 Try.underlying25 rfl (by kernel_rfl)) rfl ?_
      exact ⟨7, y, .nil, none, 0, 0, [], rfl, FQ.out.2, New.nil _ _ _, (fun _ => rfl), (by simp only [F.size]; omega)⟩
    by_cases hx4 : x = 4
    · subst hx4
      have C2 : Hid _ := IH.out u2 (by omega) LV.out.1.1
      go_wp2_with fail
      refine Calls.mono C2.out ?_
      rintro e v1 ⟨k1', m1, f1', a1, l1, c1, bs1, he, hk1, hn1, hc1, hf1⟩
      subst he
      have LB : Hid (Kept w0 w v1 g a n cap ∧ v1.heap[q8]? = some (Obj.cells #[.int .i64 0, .int .i64 0, .slice none 0 0] 25) ∧ SlO v1 25 a1 l1 c1 f1' bs1 ∧ bs1.Nodup ∧ (∀ y ∈ bs1, q8 < y)) := ⟨LV.out.1.trans hk1, (hk1.2.block _ (lt_of_block LV.out.2) (by have := PQ.out; simp; omega)).trans LV.out.2, hn1.1, hn1.2.1, fun y hy => Nat.lt_of_lt_of_le (lt_of_block LV.out.2) (hn1.2.2 y hy)⟩
      have C3 : Hid _ := IH.out v1 (by omega) LB.out.1.1
      clear LV C2 hk1 hn1
      simp only []
      go_wp2_with fail
      refine Calls.mono C3.out ?_
      rintro e u3 ⟨k2', m2, f2', a2, l2, c2, bs2, he, hk2, hn2, hc2, hf2⟩
      subst he
      have LC : Hid (Kept w0 w u3 g a n cap ∧ u3.heap[q8]? = some (Obj.cells #[.int .i64 0, .int .i64 0, .slice none 0 0] 25) ∧ SlO u3 25 a1 l1 c1 f1' bs1 ∧ bs1.Nodup ∧ (∀ y ∈ bs1, q8 < y) ∧ SlO u3 25 a2 l2 c2 f2' bs2 ∧ bs2.Nodup ∧ (∀ y ∈ bs2, q8 < y) ∧ (∀ x ∈ bs1, x ∉ bs2)) := ⟨LB.out.1.trans hk2, (hk2.2.block _ (lt_of_block LB.out.2.1) (by have := PQ.out; simp; omega)).trans LB.out.2.1, LB.out.2.2.1.kept hk2.2 (fun y hy => by have := LB.out.2.2.2.2 y hy; have := PQ.out; simp; omega), LB.out.2.2.2.1, LB.out.2.2.2.2, hn2.1, hn2.2.1, fun y hy => Nat.lt_of_lt_of_le (lt_of_block LB.out.2.1) (hn2.2.2 y hy), fun x hx hx2 => by have := LB.out.2.2.1.lt x hx; have := hn2.2.2 x hx2; omega⟩
      clear LB C3 hk2 hn2 IH
      simp only []
      obtain ⟨⟨z0, z1, z2⟩, f0, f1, f2⟩ := three LC.out.2.1
      obtain ⟨d1, k1⟩ := fill3 (.int .i64 3) (.int .i64 0) (.slice (some ⟨u3.heap.size, 0, none⟩) 2 2) LC.out.2.1
      have ga := World.grownBy_alloc (((u3.setCell ⟨q8, 0, none⟩ (.int .i64 3)).setCell ⟨q8, 1, none⟩ (.int .i64 0)).setCell ⟨q8, 2, none⟩ (.slice (some ⟨u3.heap.size, 0, none⟩) 2 2)) (.cells #[.int .i64 k1', .int .i64 m1, .slice a1 l1 c1, .int .i64 k2', .int .i64 m2, .slice a2 l2 c2] 25) none
      have hq3 := lt_of_block LC.out.2.1
      have hS := (LC.out.2.2.1.kept k1 (fun y hy => by have := LC.out.2.2.2.2.1 y hy; simp; omega))
      have hS2 := (LC.out.2.2.2.2.2.1.kept k1 (fun y hy => by have := LC.out.2.2.2.2.2.2.2.1 y hy; simp; omega))
      have hL := lit2 (k := k1') (n := m1) (k' := k2') (n' := m2) hS hS2
      have esz : (((u3.setCell ⟨q8, 0, none⟩ (.int .i64 3)).setCell ⟨q8, 1, none⟩ (.int .i64 0)).setCell ⟨q8, 2, none⟩ (.slice (some ⟨u3.heap.size, 0, none⟩) 2 2)).heap.size = u3.heap.size := by simp
      rw [esz] at hL
      have FQ : Hid (_ ∧ Kept w0 w _ g a n cap ∧ New w _ 25 (some ⟨u3.heap.size, 0, none⟩) 2 2 (.cons k1' m1 f1' (.cons k2' m2 f2' .nil)) (u3.heap.size :: (bs1 ++ bs2))) := ⟨(ga.block _ (lt_of_block d1) (by simp)).trans d1, (LC.out.1.into k1 (by have := PQ.out; omega) (by have := PQ.out; omega) (by have := PQ.out; omega)).none ga, hL, List.nodup_cons.2 ⟨fun hx => by
          rcases List.mem_append.1 hx with hx | hx
          · have := LC.out.2.2.1.lt _ hx; omega
          · have := LC.out.2.2.2.2.2.1.lt _ hx; omega, List.nodup_append.2 ⟨LC.out.2.2.2.1, LC.out.2.2.2.2.2.2.1, fun x hx y hy e => LC.out.2.2.2.2.2.2.2.2 x hx (e ▸ hy)⟩⟩, fun y hy => by
        rcases List.mem_cons.1 hy with rfl | hy
        · have := PQ.out; omega
        · rcases List.mem_append.1 hy with hy | hy
          · have := LC.out.2.2.2.2.1 y hy; have := PQ.out; omega
          · have := LC.out.2.2.2.2.2.2.2.1 y hy; have := PQ.out; omega⟩
      clear d1 k1 ga hS hS2 hL esz LC
      go_wp2
      (try simp only [Exit.inBlock, Exit.then])
      refine bodyPost_ret (results_cell_row (P := Try.prog) Try.results51 _ _ q8 _ _ _ _ rfl FQ.out.1 Try.underlying25 rfl (by kernel_rfl)) rfl ?_
      exact ⟨3, 0, .cons k1' m1 f1' (.cons k2' m2 f2' .nil), some ⟨u3.heap.size, 0, none⟩, 2, 2, u3.heap.size :: (bs1 ++ bs2), rfl, FQ.out.2.1, FQ.out.2.2, (fun h => by cases h), (by simp only [F.size, Nat.pow_succ] at *; omega)⟩
    by_cases hx5 : x = 5
    · subst hx5
      have C2 : Hid _ := IH.out u2 (by omega) LV.out.1.1
      go_wp2_with fail
      refine Calls.mono C2.out ?_
      rintro e v1 ⟨k1', m1, f1', a1, l1, c1, bs1, he, hk1, hn1, hc1, hf1⟩
      subst he
      have LB : Hid (Kept w0 w v1 g a n cap ∧ v1.heap[q8]? = some (Obj.cells #[.int .i64 0, .int .i64 0, .slice none 0 0] 25) ∧ SlO v1 25 a1 l1 c1 f1' bs1 ∧ bs1.Nodup ∧ (∀ y ∈ bs1, q8 < y)) := ⟨LV.out.1.trans hk1, (hk1.2.block _ (lt_of_block LV.out.2) (by have := PQ.out; simp; omega)).trans LV.out.2, hn1.1, hn1.2.1, fun y hy => Nat.lt_of_lt_of_le (lt_of_block LV.out.2) (hn1.2.2 y hy)⟩
      have C3 : Hid _ := IH.out v1 (by omega) LB.out.1.1
      clear LV C2 hk1 hn1
      simp only []
      go_wp2_with fail
      refine Calls.mono C3.out ?_
      rintro e u3 ⟨k2', m2, f2', a2, l2, c2, bs2, he, hk2, hn2, hc2, hf2⟩
      subst he
      have LC : Hid (Kept w0 w u3 g a n cap ∧ u3.heap[q8]? = some (Obj.cells #[.int .i64 0, .int .i64 0, .slice none 0 0] 25) ∧ SlO u3 25 a1 l1 c1 f1' bs1 ∧ bs1.Nodup ∧ (∀ y ∈ bs1, q8 < y) ∧ SlO u3 25 a2 l2 c2 f2' bs2 ∧ bs2.Nodup ∧ (∀ y ∈ bs2, q8 < y) ∧ (∀ x ∈ bs1, x ∉ bs2)) := ⟨LB.out.1.trans hk2, (hk2.2.block _ (lt_of_block LB.out.2.1) (by have := PQ.out; simp; omega)).trans LB.out.2.1, LB.out.2.2.1.kept hk2.2 (fun y hy => by have := LB.out.2.2.2.2 y hy; have := PQ.out; simp; omega), LB.out.2.2.2.1, LB.out.2.2.2.2, hn2.1, hn2.2.1, fun y hy => Nat.lt_of_lt_of_le (lt_of_block LB.out.2.1) (hn2.2.2 y hy), fun x hx hx2 => by have := LB.out.2.2.1.lt x hx; have := hn2.2.2 x hx2; omega⟩
      clear LB C3 hk2 hn2 IH
      simp only []
      obtain ⟨⟨z0, z1, z2⟩, f0, f1, f2⟩ := three LC.out.2.1
      obtain ⟨d1, k1⟩ := fill3 (.int .i64 4) (.int .i64 0) (.slice (some ⟨u3.heap.size, 0, none⟩) 2 2) LC.out.2.1
      have ga := World.grownBy_alloc (((u3.setCell ⟨q8, 0, none⟩ (.int .i64 4)).setCell ⟨q8, 1, none⟩ (.int .i64 0)).setCell ⟨q8, 2, none⟩ (.slice (some ⟨u3.heap.size, 0, none⟩) 2 2)) (.cells #[.int .i64 k1', .int .i64 m1, .slice a1 l1 c1, .int .i64 k2', .int .i64 m2, .slice a2 l2 c2] 25) none
      have hq3 := lt_of_block LC.out.2.1
      have hS := (LC.out.2.2.1.kept k1 (fun y hy => by have := LC.out.2.2.2.2.1 y hy; simp; omega))
      have hS2 := (LC.out.2.2.2.2.2.1.kept k1 (fun y hy => by have := LC.out.2.2.2.2.2.2.2.1 y hy; simp; omega))
      have hL := lit2 (k := k1') (n := m1) (k' := k2') (n' := m2) hS hS2
      have esz : (((u3.setCell ⟨q8, 0, none⟩ (.int .i64 4)).setCell ⟨q8, 1, none⟩ (.int .i64 0)).setCell ⟨q8, 2, none⟩ (.slice (some ⟨u3.heap.size, 0, none⟩) 2 2)).heap.size = u3.heap.size := by simp
      rw [esz] at hL
      have FQ : Hid (_ ∧ Kept w0 w _ g a n cap ∧ New w _ 25 (some ⟨u3.heap.size, 0, none⟩) 2 2 (.cons k1' m1 f1' (.cons k2' m2 f2' .nil)) (u3.heap.size :: (bs1 ++ bs2))) := ⟨(ga.block _ (lt_of_block d1) (by simp)).trans d1, (LC.out.1.into k1 (by have := PQ.out; omega) (by have := PQ.out; omega) (by have := PQ.out; omega)).none ga, hL, List.nodup_cons.2 ⟨fun hx => by
          rcases List.mem_append.1 hx with hx | hx
          · have := LC.out.2.2.1.lt _ hx; omega
          · have := LC.out.2.2.2.2.2.1.lt _ hx; omega, List.nodup_append.2 ⟨LC.out.2.2.2.1, LC.out.2.2.2.2.2.2.1, fun x hx y hy e => LC.out.2.2.2.2.2.2.2.2 x hx (e ▸ hy)⟩⟩, fun y hy => by
        rcases List.mem_cons.1 hy with rfl | hy
        · have := PQ.out; omega
        · rcases List.mem_append.1 hy with hy | hy
          · have := LC.out.2.2.2.2.1 y hy; have := PQ.out; omega
          · have := LC.out.2.2.2.2.2.2.2.1 y hy; have := PQ.out; omega⟩
      clear d1 k1 ga hS hS2 hL esz LC
      go_wp2
      (try simp only [Exit.inBlock, Exit.then])
      refine bodyPost_ret (results_cell_row (P := Try.prog) Try.results51 _ _ q8 _ _ _ _ rfl FQ.out.1 Try.underlying25 rfl (by kernel_rfl)) rfl ?_
      exact ⟨4, 0, .cons k1' m1 f1' (.cons k2' m2 f2' .nil), some ⟨u3.heap.size, 0, none⟩, 2, 2, u3.heap.size :: (bs1 ++ bs2), rfl, FQ.out.2.1, FQ.out.2.2, (fun h => by cases h), (by simp only [F.size, Nat.pow_succ] at *; omega)⟩
    by_cases hx6 : x = 6
    · subst hx6
      have C2 : Hid _ := IH.out u2 (by omega) LV.out.1.1
      go_wp2_with fail
      refine Calls.mono C2.out ?_
      rintro e v1 ⟨k1', m1, f1', a1, l1, c1, bs1, he, hk1, hn1, hc1, hf1⟩
      subst he
      have LB : Hid (Kept w0 w v1 g a n cap ∧ v1.heap[q8]? = some (Obj.cells #[.int .i64 0, .int .i64 0, .slice none 0 0] 25) ∧ SlO v1 25 a1 l1 c1 f1' bs1 ∧ bs1.Nodup ∧ (∀ y ∈ bs1, q8 < y)) := ⟨LV.out.1.trans hk1, (hk1.2.block _ (lt_of_block LV.out.2) (by have := PQ.out; simp; omega)).trans LV.out.2, hn1.1, hn1.2.1, fun y hy => Nat.lt_of_lt_of_le (lt_of_block LV.out.2) (hn1.2.2 y hy)⟩
      have C3 : Hid _ := IH.out v1 (by omega) LB.out.1.1
      clear LV C2 hk1 hn1
      simp only []
      go_wp2_with fail
      refine Calls.mono C3.out ?_
      rintro e u3 ⟨k2', m2, f2', a2, l2, c2, bs2, he, hk2, hn2, hc2, hf2⟩
      subst he
      have LC : Hid (Kept w0 w u3 g a n cap ∧ u3.heap[q8]? = some (Obj.cells #[.int .i64 0, .int .i64 0, .slice none 0 0] 25) ∧ SlO u3 25 a1 l1 c1 f1' bs1 ∧ bs1.Nodup ∧ (∀ y ∈ bs1, q8 < y) ∧ SlO u3 25 a2 l2 c2 f2' bs2 ∧ bs2.Nodup ∧ (∀ y ∈ bs2, q8 < y) ∧ (∀ x ∈ bs1, x ∉ bs2)) := ⟨LB.out.1.trans hk2, (hk2.2.block _ (lt_of_block LB.out.2.1) (by have := PQ.out; simp; omega)).trans LB.out.2.1, LB.out.2.2.1.kept hk2.2 (fun y hy => by have := LB.out.2.2.2.2 y hy; have := PQ.out; simp; omega), LB.out.2.2.2.1, LB.out.2.2.2.2, hn2.1, hn2.2.1, fun y hy => Nat.lt_of_lt_of_le (lt_of_block LB.out.2.1) (hn2.2.2 y hy), fun x hx hx2 => by have := LB.out.2.2.1.lt x hx; have := hn2.2.2 x hx2; omega⟩
      clear LB C3 hk2 hn2 IH
      simp only []
      obtain ⟨⟨z0, z1, z2⟩, f0, f1, f2⟩ := three LC.out.2.1
      obtain ⟨d1, k1⟩ := fill3 (.int .i64 4) (.int .i64 0) (.slice (some ⟨u3.heap.size, 0, none⟩) 2 2) LC.out.2.1
      have ga := World.grownBy_alloc (((u3.setCell ⟨q8, 0, none⟩ (.int .i64 4)).setCell ⟨q8, 1, none⟩ (.int .i64 0)).setCell ⟨q8, 2, none⟩ (.slice (some ⟨u3.heap.size, 0, none⟩) 2 2)) (.cells #[.int .i64 k1', .int .i64 m1, .slice a1 l1 c1, .int .i64 k2', .int .i64 m2, .slice a2 l2 c2] 25) none
      have hq3 := lt_of_block LC.out.2.1
      have hS := (LC.out.2.2.1.kept k1 (fun y hy => by have := LC.out.2.2.2.2.1 y hy; simp; omega))
      have hS2 := (LC.out.2.2.2.2.2.1.kept k1 (fun y hy => by have := LC.out.2.2.2.2.2.2.2.1 y hy; simp; omega))
      have hL := lit2 (k := k1') (n := m1) (k' := k2') (n' := m2) hS hS2
      have esz : (((u3.setCell ⟨q8, 0, none⟩ (.int .i64 4)).setCell ⟨q8, 1, none⟩ (.int .i64 0)).setCell ⟨q8, 2, none⟩ (.slice (some ⟨u3.heap.size, 0, none⟩) 2 2)).heap.size = u3.heap.size := by simp
      rw [esz] at hL
      have FQ : Hid (_ ∧ Kept w0 w _ g a n cap ∧ New w _ 25 (some ⟨u3.heap.size, 0, none⟩) 2 2 (.cons k1' m1 f1' (.cons k2' m2 f2' .nil)) (u3.heap.size :: (bs1 ++ bs2))) := ⟨(ga.block _ (lt_of_block d1) (by simp)).trans d1, (LC.out.1.into k1 (by have := PQ.out; omega) (by have := PQ.out; omega) (by have := PQ.out; omega)).none ga, hL, List.nodup_cons.2 ⟨fun hx => by
          rcases List.mem_append.1 hx with hx | hx
          · have := LC.out.2.2.1.lt _ hx; omega
          · have := LC.out.2.2.2.2.2.1.lt _ hx; omega, List.nodup_append.2 ⟨LC.out.2.2.2.1, LC.out.2.2.2.2.2.2.1, fun x hx y hy e => LC.out.2.2.2.2.2.2.2.2 x hx (e ▸ hy)⟩⟩, fun y hy => by
        rcases List.mem_cons.1 hy with rfl | hy
        · have := PQ.out; omega
        · rcases List.mem_append.1 hy with hy | hy
          · have := LC.out.2.2.2.2.1 y hy; have := PQ.out; omega
          · have := LC.out.2.2.2.2.2.2.2.1 y hy; have := PQ.out; omega⟩
      clear d1 k1 ga hS hS2 hL esz LC
      go_wp2
      (try simp only [Exit.inBlock, Exit.then])
      refine bodyPost_ret (results_cell_row (P := Try.prog) Try.results51 _ _ q8 _ _ _ _ rfl FQ.out.1 Try.underlying25 rfl (by kernel_rfl)) rfl ?_
      exact ⟨4, 0, .cons k1' m1 f1' (.cons k2' m2 f2' .nil), some ⟨u3.heap.size, 0, none⟩, 2, 2, u3.heap.size :: (bs1 ++ bs2), rfl, FQ.out.2.1, FQ.out.2.2, (fun h => by cases h), (by simp only [F.size, Nat.pow_succ] at *; omega)⟩
    by_cases hx7 : x = 7
    · subst hx7
      have C2 : Hid _ := IH.out u2 (by omega) LV.out.1.1
      go_wp2_with fail
      refine Calls.mono C2.out ?_
      rintro e u3 ⟨k1', m1, f1', a1, l1, c1, bs1, he, hk1, hn1, hc1, hf1⟩
      subst he
      have LC : Hid (Kept w0 w u3 g a n cap ∧ u3.heap[q8]? = some (Obj.cells #[.int .i64 0, .int .i64 0, .slice none 0 0] 25) ∧ SlO u3 25 a1 l1 c1 f1' bs1 ∧ bs1.Nodup ∧ (∀ y ∈ bs1, q8 < y)) := ⟨LV.out.1.trans hk1, (hk1.2.block _ (lt_of_block LV.out.2) (by have := PQ.out; simp; omega)).trans LV.out.2, hn1.1, hn1.2.1, fun y hy => Nat.lt_of_lt_of_le (lt_of_block LV.out.2) (hn1.2.2 y hy)⟩
      clear LV C2 hk1 hn1 IH
      simp only []
      obtain ⟨⟨z0, z1, z2⟩, f0, f1, f2⟩ := three LC.out.2.1
      obtain ⟨d1, k1⟩ := fill3 (.int .i64 5) (.int .i64 0) (.slice (some ⟨u3.heap.size, 0, none⟩) 1 1) LC.out.2.1
      have ga := World.grownBy_alloc (((u3.setCell ⟨q8, 0, none⟩ (.int .i64 5)).setCell ⟨q8, 1, none⟩ (.int .i64 0)).setCell ⟨q8, 2, none⟩ (.slice (some ⟨u3.heap.size, 0, none⟩) 1 1)) (.cells #[.int .i64 k1', .int .i64 m1, .slice a1 l1 c1] 25) none
      have hq3 := lt_of_block LC.out.2.1
      have hS := (LC.out.2.2.1.kept k1 (fun y hy => by have := LC.out.2.2.2.2 y hy; simp; omega))
      have hL := lit1 (k := k1') (n := m1) hS
      have esz : (((u3.setCell ⟨q8, 0, none⟩ (.int .i64 5)).setCell ⟨q8, 1, none⟩ (.int .i64 0)).setCell ⟨q8, 2, none⟩ (.slice (some ⟨u3.heap.size, 0, none⟩) 1 1)).heap.size = u3.heap.size := by simp
      rw [esz] at hL
      have FQ : Hid (_ ∧ Kept w0 w _ g a n cap ∧ New w _ 25 (some ⟨u3.heap.size, 0, none⟩) 1 1 (.cons k1' m1 f1' .nil) (u3.heap.size :: bs1)) := ⟨(ga.block _ (lt_of_block d1) (by simp)).trans d1, (LC.out.1.into k1 (by have := PQ.out; omega) (by have := PQ.out; omega) (by have := PQ.out; omega)).none ga, hL, List.nodup_cons.2 ⟨fun hx => by have := LC.out.2.2.1.lt _ hx; omega, LC.out.2.2.2.1⟩, fun y hy => by
        rcases List.mem_cons.1 hy with rfl | hy
        · have := PQ.out; omega
        · have := LC.out.2.2.2.2 y hy; have := PQ.out; omega⟩
      clear d1 k1 ga hS hL esz LC
      go_wp2
      (try simp only [Exit.inBlock, Exit.then])
      refine bodyPost_ret (results_cell_row (P := Try.prog) Try.results51 _ _ q8 _ _ _ _ rfl FQ.out.1 Try.underlying25 rfl (by kernel_rfl)) rfl ?_
      exact ⟨5, 0, .cons k1' m1 f1' .nil, some ⟨u3.heap.size, 0, none⟩, 1, 1, u3.heap.size :: bs1, rfl, FQ.out.2.1, FQ.out.2.2, (fun h => by cases h), (by simp only [F.size, Nat.pow_succ] at *; omega)⟩
    obtain rfl : x = 8 := by omega
    go_wp2_with fail
    refine Calls.mono (belowT w0 u2 g a n cap zs hr hz hn LV.out.1.1 datas (by omega) (by omega)) ?_
    rintro e u4 ⟨y, he, hx0y, hx1y, hk⟩
    subst he
    have LW : Hid (Kept w0 w u4 g a n cap ∧ u4.heap[q8]? = some (Obj.cells #[.int .i64 0, .int .i64 0, .slice none 0 0] 25)) := ⟨LV.out.1.trans hk, (hk.2.block _ (lt_of_block LV.out.2) (by have := PQ.out; simp; omega)).trans LV.out.2⟩
    clear LV hk
    have LV := LW
    clear LW
    simp only []
    have C2 : Hid _ := IH.out u4 (by omega) LV.out.1.1
    go_wp2_with fail
    refine Calls.mono C2.out ?_
    rintro e u3 ⟨k1', m1, f1', a1, l1, c1, bs1, he, hk1, hn1, hc1, hf1⟩
    subst he
    have LC : Hid (Kept w0 w u3 g a n cap ∧ u3.heap[q8]? = some (Obj.cells #[.int .i64 0, .int .i64 0, .slice none 0 0] 25) ∧ SlO u3 25 a1 l1 c1 f1' bs1 ∧ bs1.Nodup ∧ (∀ y ∈ bs1, q8 < y)) := ⟨LV.out.1.trans hk1, (hk1.2.block _ (lt_of_block LV.out.2) (by have := PQ.out; simp; omega)).trans LV.out.2, hn1.1, hn1.2.1, fun y hy => Nat.lt_of_lt_of_le (lt_of_block LV.out.2) (hn1.2.2 y hy)⟩
    clear LV C2 hk1 hn1 IH
    simp only []
    obtain ⟨⟨z0, z1, z2⟩, f0, f1, f2⟩ := three LC.out.2.1
    obtain ⟨d1, k1⟩ := fill3 (.int .i64 6) (.int .i64 y) (.slice (some ⟨u3.heap.size, 0, none⟩) 1 1) LC.out.2.1
    have ga := World.grownBy_alloc (((u3.setCell ⟨q8, 0, none⟩ (.int .i64 6)).setCell ⟨q8, 1, none⟩ (.int .i64 y)).setCell ⟨q8, 2, none⟩ (.slice (some ⟨u3.heap.size, 0, none⟩) 1 1)) (.cells #[.int .i64 k1', .int .i64 m1, .slice a1 l1 c1] 25) none
    have hq3 := lt_of_block LC.out.2.1
    have hS := (LC.out.2.2.1.kept k1 (fun y hy => by have := LC.out.2.2.2.2 y hy; simp; omega))
    have hL := lit1 (k := k1') (n := m1) hS
    have esz : (((u3.setCell ⟨q8, 0, none⟩ (.int .i64 6)).setCell ⟨q8, 1, none⟩ (.int .i64 y)).setCell ⟨q8, 2, none⟩ (.slice (some ⟨u3.heap.size, 0, none⟩) 1 1)).heap.size = u3.heap.size := by simp
    rw [esz] at hL
    have FQ : Hid (_ ∧ Kept w0 w _ g a n cap ∧ New w _ 25 (some ⟨u3.heap.size, 0, none⟩) 1 1 (.cons k1' m1 f1' .nil) (u3.heap.size :: bs1)) := ⟨(ga.block _ (lt_of_block d1) (by simp)).trans d1, (LC.out.1.into k1 (by have := PQ.out; omega) (by have := PQ.out; omega) (by have := PQ.out; omega)).none ga, hL, List.nodup_cons.2 ⟨fun hx => by have := LC.out.2.2.1.lt _ hx; omega, LC.out.2.2.2.1⟩, fun y hy => by
      rcases List.mem_cons.1 hy with rfl | hy
      · have := PQ.out; omega
      · have := LC.out.2.2.2.2 y hy; have := PQ.out; omega⟩
    clear d1 k1 ga hS hL esz LC
    go_wp2
    (try simp only [Exit.inBlock, Exit.then])
    refine bodyPost_ret (results_cell_row (P := Try.prog) Try.results51 _ _ q8 _ _ _ _ rfl FQ.out.1 Try.underlying25 rfl (by kernel_rfl)) rfl ?_
    exact ⟨6, y, .cons k1' m1 f1' .nil, some ⟨u3.heap.size, 0, none⟩, 1, 1, u3.heap.size :: bs1, rfl, FQ.out.2.1, FQ.out.2.2, (fun h => by cases h), (by simp only [F.size, Nat.pow_succ] at *; omega)⟩
end Go.Proofs.Ytmlganaiajhjeaa.By
