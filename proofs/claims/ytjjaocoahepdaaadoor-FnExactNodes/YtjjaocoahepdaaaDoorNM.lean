/-
  The specification's Nodes by its contract. No statement is proved here.
-/
import Derived.Test.YtjjaocoahepdaaaDoorNL
namespace Go.Proofs.YtjjaocoahepdaaaDoor.By
open Go.RowKit
set_option linter.unusedVariables false
set_option linter.unusedSimpArgs false

set_option maxRecDepth 4000 in
set_option maxHeartbeats 1000000 in
theorem specNodesT (p : PE) (kids alts : GE) (a1 : Option Addr) (l1 c1 : Nat) (a2 : Option Addr) (l2 c2 : Nat) (a3 : Option Addr) (l3 c3 : Nat) (a4 : Option Addr) (l4 c4 : Nat) (a5 : Option Addr) (l5 c5 : Nat) (w : World) (h : NdE w p kids alts a1 l1 c1 a2 l2 c2 a3 l3 c3 a4 l4 c4 a5 l5 c5) :
    Calls Tryd.prog 5 #[.agg #[.int .i64 p.k, .int .i64 p.n, .slice a1 l1 c1, .slice a2 l2 c2, .slice a3 l3 c3, .slice a4 l4 c4, .slice a5 l5 c5]] w fun e u => e = .returned (.int .i64 (ndV p kids alts 40 300 : Nat)) ∧ w.grownBy u none := by
  have g0 := World.grownBy_alloc w (.cells #[.int .i64 p.k, .int .i64 p.n, .slice a1 l1 c1, .slice a2 l2 c2, .slice a3 l3 c3, .slice a4 l4 c4, .slice a5 l5 c5] 32) none
  have b0 := heap_alloc_new w (.cells #[.int .i64 p.k, .int .i64 p.n, .slice a1 l1 c1, .slice a2 l2 c2, .slice a3 l3 c3, .slice a4 l4 c4, .slice a5 l5 c5] 32)
  have C0 : Hid _ := l5eT 40 1 rfl p kids alts a1 l1 c1 a2 l2 c2 a3 l3 c3 a4 l4 c4 a5 l5 c5 (w.alloc (.cells #[.int .i64 p.k, .int .i64 p.n, .slice a1 l1 c1, .slice a2 l2 c2, .slice a3 l3 c3, .slice a4 l4 c4, .slice a5 l5 c5] 32)) (h.none g0)
  have G0 : Hid _ := g0
  obtain ⟨⟨y0, y1, y2, y3, y4, y5, y6⟩, -⟩ := blkE b0
  clear g0 b0 h
  go_enter Tryd.func5, Tryd.ntmps5
  go_wp2_with fail
  refine Calls.mono C0.out ?_
  rintro e u ⟨he, hg⟩
  subst he
  have GF : Hid (w.grownBy u none) := grown_trans G0.out hg
  clear C0 G0 hg y0 y1 y2 y3 y4 y5 y6
  rcases spR_cases p kids alts 40 with ⟨e1, e2⟩ | ⟨e1, e2, e3⟩
  · have E : Hid (ndV p kids alts 40 300 = 0) := by
      show _ = _
      unfold ndV
      rw [okE_sp, if_neg]
      rcases e2 with e2 | e2
      · rw [e2]; simp
      · simp; intro _; omega
    rw [e1]
    simp only []
    go_wp2
    go_ret
    exact ⟨by rw [E.out]; rfl, GF.out⟩
  · have E : Hid (ndV p kids alts 40 300 = 1 + kids.cnt + alts.cnt) := by
      show _ = _
      unfold ndV
      rw [okE_sp, e2, if_pos (by simpa using e3)]
    rw [e1]
    clear e1 e2
    generalize 1 + kids.cnt + alts.cnt = M at *
    have hM0 : ¬ (M : Int) < 0 := by omega
    simp only []
    go_wp2
    go_ret
    exact ⟨by rw [E.out]; rfl, GF.out⟩
end Go.Proofs.YtjjaocoahepdaaaDoor.By
