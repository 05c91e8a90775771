/-
  The document's ShowVal by its contract. No statement is proved here.
-/
import Derived.Test.YtpmndefmibnaeaaDoorVSp
namespace Go.Proofs.YtpmndefmibnaeaaDoor.By
open Go.RowKit
set_option linter.unusedVariables false
set_option linter.unusedSimpArgs false

/-- The beginning of a row of our own. -/
theorem OwS.take {B n c : Nat} {w : World} {a : Option Addr} {zs : List Int} (h : OwS B w a n c zs) (m : Nat) (hm : m ≤ n) : OwS B w a m c (zs.take m) := by
  obtain ⟨⟨h1, h2⟩, hl⟩ := h
  refine ⟨⟨by simp [vals]; omega, ?_⟩, by simp; omega⟩
  rcases h2 with ⟨e, h0⟩ | ⟨g, cap, cur, e, hB, hc, hn, hm2, hs, ht⟩
  · injection e with e1 e2 e3
    subst e1; subst e2; subst e3
    obtain rfl : m = 0 := by omega
    exact .inl ⟨rfl, by simp [vals]⟩
  · injection e with e1 e2 e3
    subst e1; subst e3
    refine .inr ⟨g, c, cur, rfl, hB, hc, by omega, hm2, hs, ?_⟩
    have := congrArg (List.take (m * 1)) ht
    rw [List.take_take, Nat.min_eq_left (by omega)] at this
    rw [this]
    simp [vals, List.map_take]

set_option maxRecDepth 4000 in
set_option maxHeartbeats 2000000 in
theorem l14cutT (B : Nat) (zs : List Int) (a : Option Addr) (c : Nat) (w : World) (h : OwS B w a zs.length c zs) (hz : zs.length ≤ 4194304) :
    Calls Tryd.prog 21 #[.slice a zs.length c] w fun e u => e = .returned (.slice a (cut zs).length c) ∧ u = w := by
  by_cases hb : 30000 < zs.length
  · have hb' : (30000 : Int) < (zs.length : Int) := by omega
    have hl : (cut zs).length = 30000 := by unfold cut; simp; omega
    obtain ⟨g, rfl, hgc⟩ : ∃ g, a = some ⟨g, 0, none⟩ ∧ zs.length ≤ c := by
      rcases h.1.2 with ⟨e, h0⟩ | ⟨g, cap, cur, e, hB, hc, hn, hm2, hs, ht⟩
      · injection e with e1 e2 e3; omega
      · injection e with e1 e2 e3; subst e1; subst e3; exact ⟨g, rfl, hn⟩
    have HL : Hid ((cut zs).length = 30000) := hl
    clear hl h
    go_enter Tryd.func21, Tryd.ntmps21
    go_wp2
    go_ret
    rw [HL.out]
    exact ⟨rfl, rfl⟩
  · have hb' : ¬ (30000 : Int) < (zs.length : Int) := by omega
    have HL : Hid ((cut zs).length = zs.length) := by show _ = _; unfold cut; simp; omega
    clear h
    go_enter Tryd.func21, Tryd.ntmps21
    go_wp2
    go_ret
    rw [HL.out]
    exact ⟨rfl, rfl⟩

set_option maxRecDepth 4000 in
set_option maxHeartbeats 2000000 in
theorem specShowT (cells : V) (x : RVal) (a1 : Option Addr) (l1 c1 : Nat) (a2 : Option Addr) (l2 c2 : Nat) (ca : Option Addr) (cl cc : Nat) (w : World) (h : RdVal w x a1 l1 a2 l2) (hC : ShB w cells ca cl) (hsz : szVal x ≤ 1048576) (hok : okX x) :
    Calls Tryd.prog 7 #[.agg #[.int .i64 x.k, .int .i64 x.n, .slice a1 l1 c1, .slice a2 l2 c2], .slice ca cl cc] w fun e u => ∃ a c, e = .returned (.slice a (shownV cells x).length c) ∧ OwS w.heap.size u a (shownV cells x).length c (shownV cells x) ∧ w.grownBy u none := by
  have g0 := World.grownBy_alloc w (.cells #[.int .i64 x.k, .int .i64 x.n, .slice a1 l1 c1, .slice a2 l2 c2] 31) none
  have b0 := heap_alloc_new w (.cells #[.int .i64 x.k, .int .i64 x.n, .slice a1 l1 c1, .slice a2 l2 c2] 31)
  have C0 : Hid _ := l14showT w cells ca cl cc hC 8 (by omega) x a1 l1 c1 a2 l2 c2 (.slice none 0 0) [] (w.alloc (.cells #[.int .i64 x.k, .int .i64 x.n, .slice a1 l1 c1, .slice a2 l2 c2] 31)) h hsz hok ((Below.refl _ _).grown g0 (Nat.le_refl _) (fun k e => by cases e)) (World.ownsRow_nil _ _ _ _) (by simp)
  have hln := spV_len cells hC.sz hC.ok 8 [] x (by omega) hsz hok (by simp)
  have ES : Hid (cut (spV cells 8 [] x) = shownV cells x) := spV_shown cells x
  have G0 : Hid _ := g0
  obtain ⟨⟨y0, y1, y2, y3⟩, -⟩ := blkVal b0
  clear g0 b0 h hC hsz hok
  go_enter Tryd.func7, Tryd.ntmps7
  go_wp2_with fail
  refine Calls.mono C0.out ?_
  rintro e u ⟨v1, rfl, s1⟩
  obtain ⟨-, a, c, rfl, ho⟩ := ownsS s1.own
  have AL : Hid (OwS w.heap.size u a (spV cells 8 [] x).length c (spV cells 8 [] x) ∧ w.grownBy u none) := ⟨ho, grown_trans G0.out s1.gr⟩
  clear s1 ho C0 G0 y0 y1 y2 y3
  generalize spV cells 8 [] x = zs at *
  have C1 : Hid _ := l14cutT w.heap.size zs a c u AL.out.1 (by omega)
  simp only []
  go_wp2_with fail
  refine Calls.mono C1.out ?_
  rintro e z ⟨rfl, rfl⟩
  have FF : Hid (OwS w.heap.size z a (shownV cells x).length c (shownV cells x) ∧ w.grownBy z none) := by
    rw [← ES.out]
    refine ⟨?_, AL.out.2⟩
    have := AL.out.1.take (cut zs).length (by unfold cut; simp; omega)
    have e : zs.take (cut zs).length = cut zs := by
      unfold cut
      by_cases hl : zs.length ≤ 30000
      · rw [List.take_of_length_le hl, List.take_of_length_le (by omega)]
      · rw [show (zs.take 30000).length = 30000 by simp; omega]
    rw [e] at this
    exact this
  have EL : Hid ((cut zs).length = (shownV cells x).length) := by show _ = _; rw [ES.out]
  clear AL C1
  simp only []
  go_wp2
  go_ret
  exact ⟨a, c, by rw [← EL.out]; rfl, FF.out⟩
end Go.Proofs.YtpmndefmibnaeaaDoor.By
