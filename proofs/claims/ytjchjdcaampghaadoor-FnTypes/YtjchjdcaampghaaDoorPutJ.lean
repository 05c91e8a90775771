/-
  The landed PutNum answers the bytes and behind them those of the number. No statement is proved here.
-/
import Derived.Test.YtjchjdcaampghaaDoorPutI
namespace Go.Proofs.YtjchjdcaampghaaDoor.By
open Go.RowKit
set_option linter.unusedVariables false

theorem reads_nil (w : World) : Reads w none 0 [] := ⟨rfl, .inl rfl⟩

set_option maxHeartbeats 2000000 in
theorem implPut (a : Option Addr) (n cap : Nat) (zs : List Int) (N : Int) (w : World) (h : Reads w a n zs) (hn : n ≤ 1500000) :
    Calls Tryd.prog 33 #[.slice a n cap, .int .i64 N] w fun e w' => ∃ g, e = .returned (.slice (some ⟨g, 0, none⟩) (n + (numB N).length) (n + (numB N).length)) ∧ w.grownBy w' none ∧ w.heap.size ≤ g ∧ Row w' g (n + (numB N).length) (zs ++ numB N) := by
  by_cases hN : 0 ≤ N ∧ N ≤ 2147483647
  · obtain ⟨h0, h1⟩ := hN
    have hP := partsT N w h0 h1
    obtain ⟨L, hL⟩ : ∃ L, L = numB N := ⟨_, rfl⟩
    rw [← hL] at hP ⊢
    clear hL
    go_enter Tryd.func33, Tryd.ntmps33
    go_wp2_with fail
    refine hP.mono ?_
    rintro e w1 ⟨p0, p1, p2, p3, p4, c, rfl, hL, hc1, hc5, hg1⟩
    have hLl : L.length = c := by rw [← hL]; simp; omega
    have HL : Hid ([p0, p1, p2, p3, p4].take c = L) := hL
    have HLl : Hid (L.length = c) := hLl
    clear hP hL hLl
    have hA := (World.grownBy_alloc w1 (.cells #[.int .u8 p0, .int .u8 p1, .int .u8 p2, .int .u8 p3, .int .u8 p4] 78) none)
    have HR : Hid (Reads (w1.alloc (.cells #[.int .u8 p0, .int .u8 p1, .int .u8 p2, .int .u8 p3, .int .u8 p4] 78)) a n zs) := (h.none hg1).none hA
    have HG : Hid (w.grownBy (w1.alloc (.cells #[.int .u8 p0, .int .u8 p1, .int .u8 p2, .int .u8 p3, .int .u8 p4] 78)) none) := grown_trans hg1 hA
    clear hA hg1 h
    have hc5' : (c : Int) ≤ 5 := by omega
    go_wp2_with fail
    refine (joinedT a (some ⟨w1.heap.size, 0, none⟩) n c cap 5 zs L _ HR.out (reads_parts w1 p0 p1 p2 p3 p4 c 78 L hc5 HL.out) (by omega) (by omega)).mono ?_
    rintro e w2 ⟨g, rfl, hg2, hlt2, hrow2⟩
    have HG2 : Hid (w.grownBy w2 none) := grown_trans HG.out hg2
    have hlt : w.heap.size ≤ g := Nat.le_trans HG.out.size hlt2
    clear hg2 hlt2 HR HG
    go_wp2
    go_ret
    rw [HLl.out]
    exact ⟨g, rfl, HG2.out, hlt, hrow2⟩
  · have e0 := numB_out (show N < 0 ∨ 2147483647 < N by omega)
    have hJ := joinedT a none n 0 cap 0 zs [] w h (reads_nil w) (by omega) (by omega)
    rw [e0]
    rcases (show N < 0 ∨ 2147483647 < N by omega) with h1 | h1
    all_goals
      go_enter Tryd.func33, Tryd.ntmps33
      go_wp2_with fail
      refine hJ.mono ?_
      rintro e w1 ⟨g, rfl, hg, hlt, hrow⟩
      clear hJ
      go_wp2
      go_ret
      exact ⟨g, rfl, hg, hlt, hrow⟩
end Go.Proofs.YtjchjdcaampghaaDoor.By
