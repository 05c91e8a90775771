/-
  One token more behind those of our own. No statement is proved here.
-/
import Derived.Test.YtaecnhmegdeicaaDoorXK
namespace Go.Proofs.YtaecnhmegdeicaaDoor.By
open Go.RowKit
set_option linter.unusedVariables false
set_option linter.unusedSimpArgs false

theorem lexI_push {w wr Y y2 : World} {zs : List Int} {a3 : Option Addr} {l3 c3 : Nat} {a4 : Option Addr} {c4 : Nat} {k q f : Nat} {acc : List RToken} {vs : List Value} {K P N : Int} {txt : List Int} {a : Option Addr} {l cc : Nat}
    (hW : w.grownBy wr none) (hO : wr.ownsRow w.heap.size 33 4 (.slice a3 l3 c3) l3 vs) (hT : TkO wr wr.heap.size acc vs w.heap.size) (hl3 : l3 + 1 ≤ k + q) (hf : zs.length + 1 ≤ f + (k + q)) (HV : lexV zs = lexR f zs (k + q) (acc ++ [⟨K, P, N, txt⟩]))
    (hg : wr.grownBy Y none) (hr0 : Y.ownsRow wr.heap.size 5 1 (.slice a l cc) l (vB txt)) (hb : Byt txt) (hl : l ≤ 1048576)
    (ho2 : y2.ownsRow w.heap.size 33 4 (.slice a4 (l3 + 1) c4) (l3 + 1) (vs ++ [.int .i64 K, .int .i64 P, .int .i64 N, .slice a l cc])) (hg2 : Y.grownBy y2 (Value.slice a3 l3 c3).ownBlock) : LexI w y2 zs a4 (l3 + 1) c4 (k + q) := by
  have O1 := hO.kept hg (Classical.em _)
  have hn : ∀ g, (Value.slice a3 l3 c3).ownBlock = some g → ∀ cur, Y.heap[g]? ≠ some (.cells cur 5 (0, 0)) := fun g hg cur he => by
    rcases O1.2 with ⟨e1, -⟩ | ⟨g2, cap, cur2, e1, -, hb', -⟩
    · rw [e1] at hg; cases hg
    · rw [e1] at hg
      have e3 : g2 = g := by simpa [Value.ownBlock] using hg
      subst e3
      rw [he] at hb'
      cases hb'
  refine ⟨f, _, _, hf, HV, grown_rowX (grown_trans hW hg) O1 hg2, ho2, TkO.app ((hT.none hg).kept hg2 hn) ?_, hl3⟩
  have hr := hr0.kept hg2 (by
    rcases hr0.2 with ⟨e1, -⟩ | ⟨g2, cap, cur2, e1, -, hb', -⟩
    · left; rw [e1]; rfl
    · right; rw [e1]; intro e2; exact hn g2 e2.symm _ hb')
  refine ⟨a, l, cc, y2.heap.size, [], rfl, ⟨hr, hb, hl⟩, fun g hg => ?_, Nat.le_trans hg.size hg2.size, rfl, Nat.le_refl _⟩
  rcases hr.2 with ⟨e1, -⟩ | ⟨g2, cap, cur2, e1, -, hb', -⟩
  · rw [e1] at hg; cases hg
  · rw [e1] at hg
    have e3 : g2 = g := by simpa [Value.ownBlock] using hg
    subst e3
    exact lt_of_block hb'
end Go.Proofs.YtaecnhmegdeicaaDoor.By
