/-
  The specification's count of nodes by its contract. No statement is proved here.
-/
import Derived.Test.YtbeejgacdcncgaaGPL
namespace Go.Proofs.Ytbeejgacdcncgaa.By
open Go.RowKit
set_option linter.unusedVariables false
set_option linter.unusedSimpArgs false

set_option maxRecDepth 4000 in
set_option maxHeartbeats 800000 in
theorem lcT (p : PL) (kids alts : GL) (a1 : Option Addr) (l1 c1 : Nat) (a2 : Option Addr) (l2 c2 : Nat) (a3 : Option Addr) (l3 c3 : Nat) (a4 : Option Addr) (l4 c4 : Nat) (a5 : Option Addr) (l5 c5 : Nat) (w : World) (h : NdL w p kids alts a1 l1 a2 l2 a3 l3 a4 l4 a5 l5) :
    Calls Try.prog 13 #[.agg #[.int .i64 p.k, .int .i64 p.n, .int .i64 p.m, .int .i64 p.c, .slice a1 l1 c1, .int .i64 p.tk, .int .i64 p.tn, .slice a2 l2 c2, .int .i64 p.uk, .int .i64 p.un, .slice a3 l3 c3, .slice a4 l4 c4, .slice a5 l5 c5]] w fun e u => e = .returned (.int .i64 (min (1 + kids.cnt + alts.cnt) 1501 : Nat)) ∧ w.grownBy u none := by
  have g1 := World.grownBy_alloc w (.cells #[.int .i64 p.k, .int .i64 p.n, .int .i64 p.m, .int .i64 p.c, .slice a1 l1 c1, .int .i64 p.tk, .int .i64 p.tn, .slice a2 l2 c2, .int .i64 p.uk, .int .i64 p.un, .slice a3 l3 c3, .slice a4 l4 c4, .slice a5 l5 c5] 38) none
  have es : (w.alloc (.cells #[.int .i64 p.k, .int .i64 p.n, .int .i64 p.m, .int .i64 p.c, .slice a1 l1 c1, .int .i64 p.tk, .int .i64 p.tn, .slice a2 l2 c2, .int .i64 p.uk, .int .i64 p.un, .slice a3 l3 c3, .slice a4 l4 c4, .slice a5 l5 c5] 38)).heap.size = w.heap.size + 1 := by simp
  have hnd := h.none g1
  obtain ⟨N, hN⟩ : ∃ N : Nat, (N : Int) = 1501 := ⟨1501, rfl⟩
  have hN' : N = 1501 := by omega
  have g0 := grown_trans g1 (World.grownBy_alloc (w.alloc (.cells #[.int .i64 p.k, .int .i64 p.n, .int .i64 p.m, .int .i64 p.c, .slice a1 l1 c1, .int .i64 p.tk, .int .i64 p.tn, .slice a2 l2 c2, .int .i64 p.uk, .int .i64 p.un, .slice a3 l3 c3, .slice a4 l4 c4, .slice a5 l5 c5] 38)) (.cells #[.int .i64 (N : Int)] 3) none)
  have b0 := heap_alloc_new (w.alloc (.cells #[.int .i64 p.k, .int .i64 p.n, .int .i64 p.m, .int .i64 p.c, .slice a1 l1 c1, .int .i64 p.tk, .int .i64 p.tn, .slice a2 l2 c2, .int .i64 p.uk, .int .i64 p.un, .slice a3 l3 c3, .slice a4 l4 c4, .slice a5 l5 c5] 38)) (.cells #[.int .i64 (N : Int)] 3)
  have C0 := lpT (kids.cnt + alts.cnt) p a1 l1 c1 a2 l2 c2 a3 l3 c3 a4 l4 c4 a5 l5 c5 kids alts N (w.alloc (.cells #[.int .i64 p.k, .int .i64 p.n, .int .i64 p.m, .int .i64 p.c, .slice a1 l1 c1, .int .i64 p.tk, .int .i64 p.tn, .slice a2 l2 c2, .int .i64 p.uk, .int .i64 p.un, .slice a3 l3 c3, .slice a4 l4 c4, .slice a5 l5 c5] 38)).heap.size ((w.alloc (.cells #[.int .i64 p.k, .int .i64 p.n, .int .i64 p.m, .int .i64 p.c, .slice a1 l1 c1, .int .i64 p.tk, .int .i64 p.tn, .slice a2 l2 c2, .int .i64 p.uk, .int .i64 p.un, .slice a3 l3 c3, .slice a4 l4 c4, .slice a5 l5 c5] 38)).alloc (.cells #[.int .i64 (N : Int)] 3)) (Nat.le_refl _) b0 (hnd.2.2.2.1.le CLe.allocP) (hnd.2.2.2.2.le CLe.allocP) (by omega)
  rw [es] at C0
  have C0 : Hid _ := C0
  have G0 : Hid _ := g0
  clear g0 b0 h g1 es hnd
  go_enter Try.func13, Try.ntmps13
  go_wp2_with fail
  rw [← hN]
  refine Calls.mono C0.out ?_
  rintro e u ⟨he, hpb, hgu⟩
  subst he
  have GF : Hid (w.grownBy u none) := grown_into G0.out hgu (Nat.le_succ _)
  obtain ⟨z0, -⟩ := one1 hpb
  clear C0 G0 hgu hpb
  have hmm : N - (N - (1 + kids.cnt + alts.cnt)) = min (1 + kids.cnt + alts.cnt) 1501 := by omega
  have hml : N - (1 + kids.cnt + alts.cnt) ≤ N := by omega
  generalize N - (1 + kids.cnt + alts.cnt) = r at *
  have hri : (1501 : Int) - (r : Int) = ((N - r : Nat) : Int) := by omega
  simp only []
  go_wp2
  go_ret
  refine ⟨?_, GF.out⟩
  rw [← hmm]
  rw [hN']
  rfl

theorem specLowNodesT (p : PL) (kids alts : GL) (a1 : Option Addr) (l1 c1 : Nat) (a2 : Option Addr) (l2 c2 : Nat) (a3 : Option Addr) (l3 c3 : Nat) (a4 : Option Addr) (l4 c4 : Nat) (a5 : Option Addr) (l5 c5 : Nat) (w : World) (h : NdL w p kids alts a1 l1 a2 l2 a3 l3 a4 l4 a5 l5) :
    Calls Try.prog 5 #[.agg #[.int .i64 p.k, .int .i64 p.n, .int .i64 p.m, .int .i64 p.c, .slice a1 l1 c1, .int .i64 p.tk, .int .i64 p.tn, .slice a2 l2 c2, .int .i64 p.uk, .int .i64 p.un, .slice a3 l3 c3, .slice a4 l4 c4, .slice a5 l5 c5]] w fun e u => e = .returned (.int .i64 (min (1 + kids.cnt + alts.cnt) 1501 : Nat)) ∧ w.grownBy u none := by
  have g0 := World.grownBy_alloc w (.cells #[.int .i64 p.k, .int .i64 p.n, .int .i64 p.m, .int .i64 p.c, .slice a1 l1 c1, .int .i64 p.tk, .int .i64 p.tn, .slice a2 l2 c2, .int .i64 p.uk, .int .i64 p.un, .slice a3 l3 c3, .slice a4 l4 c4, .slice a5 l5 c5] 38) none
  have C0 : Hid _ := lcT p kids alts a1 l1 c1 a2 l2 c2 a3 l3 c3 a4 l4 c4 a5 l5 c5 _ (h.none g0)
  have G0 : Hid _ := g0
  clear h g0
  go_enter Try.func5, Try.ntmps5
  go_wp2_with fail
  refine Calls.mono C0.out ?_
  rintro e u ⟨he, hgu⟩
  subst he
  have GF : Hid (w.grownBy u none) := grown_trans G0.out hgu
  clear C0 hgu G0
  simp only []
  go_wp2
  go_ret
  exact ⟨rfl, GF.out⟩
end Go.Proofs.Ytbeejgacdcncgaa.By
