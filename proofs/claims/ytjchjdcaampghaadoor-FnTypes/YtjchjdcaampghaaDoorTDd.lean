/-
  One tree that is drawn. No statement is proved here.
-/
import Derived.Test.YtjchjdcaampghaaDoorTDz
import Derived.Test.YtjchjdcaampghaaDoorTPush
namespace Go.Proofs.YtjchjdcaampghaaDoor.By
open Go.RowKit
set_option linter.unusedVariables false
set_option linter.unusedSimpArgs false

set_option maxRecDepth 8000 in
set_option maxHeartbeats 4000000 in
theorem drawOneT (a : Option Addr) (n cap : Nat) (zs : List Int) (w : World) (hr : Reads w a n zs) (hz : Byt zs) (hn : n ≤ 9223372036854775807) :
    Calls Tryd.prog 4 #[.slice a n cap] w fun e u => ∃ (k m : Int) (f : F) (a1 : Option Addr) (l1 c1 : Nat) (bs : List Nat), e = .returned (.agg #[.int .i64 k, .int .i64 m, .slice a1 l1 c1]) ∧ w.grownBy u none ∧ New w u 25 a1 l1 c1 f bs ∧ f.size ≤ 5000 := by
  have g0 := World.grownBy_alloc w (.cells #[.int .i64 0, .int .i64 0, .slice none 0 0] 25) none
  have C0 : Hid _ := newT a n cap zs _ (hr.none g0) hz hn
  have L0 : Hid (w.grownBy (w.alloc (.cells #[.int .i64 0, .int .i64 0, .slice none 0 0] 25)) none ∧ (w.alloc (.cells #[.int .i64 0, .int .i64 0, .slice none 0 0] 25)).heap[w.heap.size]? = some (Obj.cells #[.int .i64 0, .int .i64 0, .slice none 0 0] 25) ∧ Reads (w.alloc (.cells #[.int .i64 0, .int .i64 0, .slice none 0 0] 25)) a n zs) := ⟨g0, heap_alloc_new w _, hr.none g0⟩
  clear g0 hr
  go_enter Tryd.func4, Tryd.ntmps4
  go_wp2_with fail
  generalize w.alloc (.cells #[.int .i64 0, .int .i64 0, .slice none 0 0] 25) = w0 at *
  refine Calls.mono C0.out ?_
  rintro e v1 ⟨g, he, hc, hg⟩
  subst he
  have hq := lt_of_block L0.out.2.1
  have hc1 := hc.1
  have C1 : Hid _ := l3anyZ w0 g a n cap zs L0.out.2.2 hz hn v1 hc
  have L1 : Hid (Cur w0 v1 g a n cap ∧ v1.heap[w.heap.size]? = some (Obj.cells #[.int .i64 0, .int .i64 0, .slice none 0 0] 25)) := ⟨hc, (hg.block _ hq (by simp)).trans L0.out.2.1⟩
  clear hc hg C0
  simp only []
  go_wp2_with fail
  refine Calls.mono C1.out ?_
  rintro e v2 ⟨k, m, f, a1, l1, c1, bs, he, hk, hnw, hfs⟩
  subst he
  have lt2 := lt_of_block L1.out.2
  have hb := (hk.2.block _ lt2 (by simp; omega)).trans L1.out.2
  have gw : w.grownBy v1 none := grown_trans L0.out.1 ⟨L1.out.1.2.1.os, L1.out.1.2.1.tape, L1.out.1.2.1.output, L1.out.1.2.1.size, fun k hk _ => L1.out.1.2.1.block k hk⟩
  have gv : w.grownBy v2 none := grown_into gw hk.2 (by omega)
  obtain ⟨d1, k1⟩ := fill3 (.int .i64 k) (.int .i64 m) (.slice a1 l1 c1) hb
  have hs1 := gw.size
  have FQ : Hid (_ ∧ w.grownBy _ none ∧ New w _ 25 a1 l1 c1 f bs) := ⟨d1, grown_into gv k1 (Nat.le_refl _), hnw.1.kept k1 (fun y hy => by have := hnw.2.2 y hy; simp; omega), hnw.2.1, fun y hy => by have := hnw.2.2 y hy; omega⟩
  obtain ⟨⟨z0, z1, z2⟩, f0, f1, f2⟩ := three hb
  clear hk hnw lt2 L1 C1 hc1 hq d1 k1 gv gw hb hs1 L0
  simp only []
  go_wp2
  (try simp only [Exit.inBlock, Exit.then])
  refine bodyPost_ret (results_cell_row (P := Tryd.prog) Tryd.results4 _ _ w.heap.size _ _ _ _ rfl FQ.out.1 Tryd.underlying25 rfl (by kernel_rfl)) rfl ?_
  exact ⟨k, m, f, a1, l1, c1, bs, rfl, FQ.out.2.1, FQ.out.2.2, hfs⟩
end Go.Proofs.YtjchjdcaampghaaDoor.By
