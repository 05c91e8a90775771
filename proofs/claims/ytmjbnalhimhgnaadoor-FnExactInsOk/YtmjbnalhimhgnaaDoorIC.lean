/-
  Whether an instruction is one: the program's own by its contract. No statement is proved here.
-/
import Derived.Test.YtmjbnalhimhgnaaDoorIB
import Derived.Test.YtmjbnalhimhgnaaDoorSIns
namespace Go.Proofs.YtmjbnalhimhgnaaDoor.By
open Go.RowKit
set_option linter.unusedVariables false
set_option linter.unusedSimpArgs false

def aV (x0 x1 : Bool) (a : Int) : Bool := if x1 then wholeV a else if x0 then numV a else decide (a = 0)
def bV (x2 : Bool) (b : Int) : Bool := if x2 then numV b else decide (b = 0)
def lV (x3 : Bool) (zs : List Int) : Bool := if x3 then litV zs else decide (zs.length = 0)
def toV (zs : List Int) : Bool := decide (1 ≤ zs.length) && decide (zs.length ≤ 5) && !zs.any noNum
def tV (x4 : Bool) (zs : List Int) : Bool := if x4 then toV zs else decide (zs.length = 0)

set_option maxHeartbeats 1000000 in
theorem aFitsT (x0 x1 x2 x3 x4 : Bool) (a : Int) (w : World) :
    Calls Tryd.prog 17 #[.agg #[.bool x0, .bool x1, .bool x2, .bool x3, .bool x4], .int .i64 a] w fun e u => e = .returned (.bool (aV x0 x1 a)) ∧ w.grownBy u none := by
  have g0 := World.grownBy_alloc w (.cells #[.bool x0, .bool x1, .bool x2, .bool x3, .bool x4] 40) none
  obtain ⟨⟨y0, y1, y2, y3, y4⟩, -⟩ := blk5 (heap_alloc_new w (.cells #[.bool x0, .bool x1, .bool x2, .bool x3, .bool x4] 40))
  have G0 : Hid (w.grownBy (w.alloc (.cells #[.bool x0, .bool x1, .bool x2, .bool x3, .bool x4] 40)) none) := g0
  have CW : Hid _ := isWholeT a (w.alloc (.cells #[.bool x0, .bool x1, .bool x2, .bool x3, .bool x4] 40))
  have CN : Hid _ := isNumT a (w.alloc (.cells #[.bool x0, .bool x1, .bool x2, .bool x3, .bool x4] 40))
  clear g0
  cases x1 with
  | true =>
    go_enter Tryd.func17, Tryd.ntmps17
    go_wp2_with fail
    refine Calls.mono CW.out ?_
    rintro e u ⟨rfl, rfl⟩
    clear CW CN
    simp only []
    go_wp2
    go_ret
    exact ⟨rfl, G0.out⟩
  | false =>
    cases x0 with
    | true =>
      go_enter Tryd.func17, Tryd.ntmps17
      go_wp2_with fail
      refine Calls.mono CN.out ?_
      rintro e u ⟨rfl, rfl⟩
      clear CW CN
      simp only []
      go_wp2
      go_ret
      exact ⟨rfl, G0.out⟩
    | false =>
      clear CW CN
      by_cases h : a = 0
      · have hb : (a == 0) = true := by simpa using h
        go_enter Tryd.func17, Tryd.ntmps17
        go_wp2
        go_ret
        exact ⟨by simp [aV, h], G0.out⟩
      · have hb : (a == 0) = false := by simpa using h
        go_enter Tryd.func17, Tryd.ntmps17
        go_wp2
        go_ret
        exact ⟨by simp [aV, h], G0.out⟩

set_option maxHeartbeats 1000000 in
theorem bFitsT (x0 x1 x2 x3 x4 : Bool) (a : Int) (w : World) :
    Calls Tryd.prog 18 #[.agg #[.bool x0, .bool x1, .bool x2, .bool x3, .bool x4], .int .i64 a] w fun e u => e = .returned (.bool (bV x2 a)) ∧ w.grownBy u none := by
  have g0 := World.grownBy_alloc w (.cells #[.bool x0, .bool x1, .bool x2, .bool x3, .bool x4] 40) none
  obtain ⟨⟨y0, y1, y2, y3, y4⟩, -⟩ := blk5 (heap_alloc_new w (.cells #[.bool x0, .bool x1, .bool x2, .bool x3, .bool x4] 40))
  have G0 : Hid (w.grownBy (w.alloc (.cells #[.bool x0, .bool x1, .bool x2, .bool x3, .bool x4] 40)) none) := g0
  have CN : Hid _ := isNumT a (w.alloc (.cells #[.bool x0, .bool x1, .bool x2, .bool x3, .bool x4] 40))
  clear g0
  cases x2 with
  | true =>
    go_enter Tryd.func18, Tryd.ntmps18
    go_wp2_with fail
    refine Calls.mono CN.out ?_
    rintro e u ⟨rfl, rfl⟩
    clear CN
    simp only []
    go_wp2
    go_ret
    exact ⟨rfl, G0.out⟩
  | false =>
    clear CN
    by_cases h : a = 0
    · have hb : (a == 0) = true := by simpa using h
      go_enter Tryd.func18, Tryd.ntmps18
      go_wp2
      go_ret
      exact ⟨by simp [bV, h], G0.out⟩
    · have hb : (a == 0) = false := by simpa using h
      go_enter Tryd.func18, Tryd.ntmps18
      go_wp2
      go_ret
      exact ⟨by simp [bV, h], G0.out⟩

set_option maxHeartbeats 1000000 in
theorem litFitsT (x0 x1 x2 x3 x4 : Bool) (a : Option Addr) (l c : Nat) (zs : List Int) (w : World) (h : RdB w a l zs) :
    Calls Tryd.prog 19 #[.agg #[.bool x0, .bool x1, .bool x2, .bool x3, .bool x4], .slice a l c] w fun e u => e = .returned (.bool (lV x3 zs)) ∧ w.grownBy u none := by
  have g0 := World.grownBy_alloc w (.cells #[.bool x0, .bool x1, .bool x2, .bool x3, .bool x4] 40) none
  obtain ⟨⟨y0, y1, y2, y3, y4⟩, -⟩ := blk5 (heap_alloc_new w (.cells #[.bool x0, .bool x1, .bool x2, .bool x3, .bool x4] 40))
  have G0 : Hid (w.grownBy (w.alloc (.cells #[.bool x0, .bool x1, .bool x2, .bool x3, .bool x4] 40)) none) := g0
  have CN : Hid _ := isLiteralT a l c zs (w.alloc (.cells #[.bool x0, .bool x1, .bool x2, .bool x3, .bool x4] 40)) (h.none g0)
  have hl := h.1.1
  have hm := h.2.2
  clear g0 h
  cases x3 with
  | true =>
    go_enter Tryd.func19, Tryd.ntmps19
    go_wp2_with fail
    refine Calls.mono CN.out ?_
    rintro e u ⟨rfl, hg⟩
    have G1 : Hid (w.grownBy u none) := grown_trans G0.out hg
    clear CN hg
    simp only []
    go_wp2
    go_ret
    exact ⟨rfl, G1.out⟩
  | false =>
    clear CN
    by_cases h : l = 0
    · subst h
      go_enter Tryd.func19, Tryd.ntmps19
      go_wp2
      go_ret
      exact ⟨by simp [lV, hl], G0.out⟩
    · have hb : ((l : Int) == 0) = false := by simpa using (show ¬ (l : Int) = 0 by omega)
      go_enter Tryd.func19, Tryd.ntmps19
      go_wp2
      go_ret
      exact ⟨by simp [lV, hl, h], G0.out⟩

set_option maxHeartbeats 1000000 in
theorem toFitsT (x0 x1 x2 x3 x4 : Bool) (a : Option Addr) (l c : Nat) (zs : List Int) (w : World) (h : RdI w a l zs) :
    Calls Tryd.prog 20 #[.agg #[.bool x0, .bool x1, .bool x2, .bool x3, .bool x4], .slice a l c] w fun e u => e = .returned (.bool (tV x4 zs)) ∧ w.grownBy u none := by
  have g0 := World.grownBy_alloc w (.cells #[.bool x0, .bool x1, .bool x2, .bool x3, .bool x4] 40) none
  obtain ⟨⟨y0, y1, y2, y3, y4⟩, -⟩ := blk5 (heap_alloc_new w (.cells #[.bool x0, .bool x1, .bool x2, .bool x3, .bool x4] 40))
  have G0 : Hid (w.grownBy (w.alloc (.cells #[.bool x0, .bool x1, .bool x2, .bool x3, .bool x4] 40)) none) := g0
  have CN : Hid _ := containsNT zs a l c (w.alloc (.cells #[.bool x0, .bool x1, .bool x2, .bool x3, .bool x4] 40)) (h.none g0)
  have hl := h.1.1
  have hm := h.2
  clear g0 h
  cases x4 with
  | true =>
    by_cases h1 : 1 ≤ l
    · by_cases h5 : l ≤ 5
      · have h1' : (l : Int) ≥ 1 := by omega
        have h5' : (l : Int) ≤ 5 := by omega
        have HE : Hid (toV zs = !zs.any noNum) := by show _ = _; simp [toV, hl, h1, h5]
        go_enter Tryd.func20, Tryd.ntmps20
        go_wp2_with fail
        refine Calls.mono CN.out ?_
        rintro e u ⟨rfl, hg⟩
        have G1 : Hid (w.grownBy u none) := grown_trans G0.out hg
        clear CN hg
        simp only []
        go_wp2
        go_ret
        exact ⟨by show _ = Ending.returned (.bool (toV zs)); rw [HE.out]; rfl, G1.out⟩
      · have h1' : (l : Int) ≥ 1 := by omega
        have h5' : ¬ (l : Int) ≤ 5 := by omega
        have HE : Hid (toV zs = false) := by show _ = _; simp [toV, hl, h1, h5]
        clear CN
        go_enter Tryd.func20, Tryd.ntmps20
        go_wp2
        go_ret
        exact ⟨by show _ = Ending.returned (.bool (toV zs)); rw [HE.out]; rfl, G0.out⟩
    · have h1' : ¬ (l : Int) ≥ 1 := by omega
      have HE : Hid (toV zs = false) := by show _ = _; simp [toV, hl, h1]
      clear CN
      go_enter Tryd.func20, Tryd.ntmps20
      go_wp2
      go_ret
      exact ⟨by show _ = Ending.returned (.bool (toV zs)); rw [HE.out]; rfl, G0.out⟩
  | false =>
    clear CN
    by_cases h : l = 0
    · subst h
      go_enter Tryd.func20, Tryd.ntmps20
      go_wp2
      go_ret
      exact ⟨by simp [tV, hl], G0.out⟩
    · have hb : ((l : Int) == 0) = false := by simpa using (show ¬ (l : Int) = 0 by omega)
      go_enter Tryd.func20, Tryd.ntmps20
      go_wp2
      go_ret
      exact ⟨by simp [tV, hl, h], G0.out⟩

end Go.Proofs.YtmjbnalhimhgnaaDoor.By
