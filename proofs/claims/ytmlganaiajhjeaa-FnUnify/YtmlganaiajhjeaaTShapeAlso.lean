/-
  Several texts in one (UF, TShape). No statement is proved here.
-/
import Derived.Test.YtmlganaiajhjeaaUB
import Derived.Test.YtmlganaiajhjeaaTVm
import Derived.Deep.DeepCutAuto
import Derived.Test.YtmlganaiajhjeaaTOk
import Derived.Deep.RegionHeld
namespace Go.Proofs.Ytmlganaiajhjeaa.By
open Go.RowKit
set_option linter.unusedVariables false
set_option linter.unusedSimpArgs false

def B.dom : B → List Int
  | .nil => []
  | .cons v _ _ _ r => v :: r.dom
theorem B.dom_app (f g : B) : (f.app g).dom = f.dom ++ g.dom := by
  induction f with
  | nil => rfl
  | cons v k n d r ih => simp [B.app, B.dom, ih]
theorem B.dom_len (f : B) : f.dom.length = f.len := by
  induction f with
  | nil => rfl
  | cons v k n d r ih => simp [B.len, B.dom, ih]
def B.find : B → Int → Option (Int × Int × F)
  | .nil, _ => none
  | .cons v k n d r, x => if v = x then some (k, n, d) else r.find x
theorem B.find_dom (f : B) (x : Int) : (f.find x).isSome = f.dom.contains x := by
  induction f with
  | nil => rfl
  | cons v k n d r ih =>
    by_cases h : v = x
    · simp [B.find, B.dom, h]
    · rw [B.find, if_neg h, ih, B.dom, List.contains_cons]
      have : (x == v) = false := by simp; exact fun e => h e.symm
      rw [this, Bool.false_or]
theorem B.find_app (f g : B) (x : Int) : (f.app g).find x = match f.find x with | some y => some y | none => g.find x := by
  induction f with
  | nil => rfl
  | cons v k n d r ih =>
    simp only [B.app, B.find]
    by_cases h : v = x
    · rw [if_pos h, if_pos h]
    · rw [if_neg h, if_neg h, ih]
/-- The first place of a variable, from j on; -1: there is none. -/
def findV : B → Int → Nat → Int
  | .nil, _, _ => -1
  | .cons v _ _ _ r, x, j => if v = x then (j : Int) else findV r x (j + 1)
theorem findV_ge (f : B) (x : Int) : ∀ j, -1 ≤ findV f x j ∧ findV f x j < j + f.len := by
  induction f with
  | nil => intro j; simp [findV, B.len]; omega
  | cons v k n d r ih =>
    intro j
    have := ih (j + 1)
    simp only [findV, B.len]
    split <;> omega
theorem findV_dom (f : B) (x : Int) : ∀ j, decide (0 ≤ findV f x j) = f.dom.contains x := by
  induction f with
  | nil => intro j; rfl
  | cons v k n d r ih =>
    intro j
    by_cases h : v = x
    · simp [findV, B.dom, h]
    · rw [findV, if_neg h, ih, B.dom, List.contains_cons]
      have : (x == v) = false := by simp; exact fun e => h e.symm
      rw [this, Bool.false_or]
/-- x may not stand in what is bound to v behind P. -/
def badX (P : B) (v x : Int) : Bool := decide (x = v) || P.dom.contains x
def okB1 (P : B) (v k n : Int) (d : F) : Bool := decide (0 ≤ v) && (decide (v < 100000) && (okT k n d && (!P.dom.contains v && !(vT k n d).any (badX P v))))
def bindsR : B → B → Bool
  | _, .nil => true
  | P, .cons v k n d r => okB1 P v k n d && bindsR (P.app (.cons v k n d .nil)) r
def bindsV (L : B) : Bool := decide (L.len ≤ 400) && bindsR .nil L
theorem any_mem {l l' : List Int} {p : Int → Bool} (h : ∀ y, y ∈ l ↔ y ∈ l') : l.any p = l'.any p := by
  rw [Bool.eq_iff_iff, List.any_eq_true, List.any_eq_true]
  exact ⟨fun ⟨x, hx, hp⟩ => ⟨x, (h x).1 hx, hp⟩, fun ⟨x, hx, hp⟩ => ⟨x, (h x).2 hx, hp⟩⟩
theorem any_ins (vs : List Int) (p : Int → Bool) : (insL [] vs).any p = vs.any p := any_mem fun y => by rw [insL_mem]; simp

set_option maxHeartbeats 1000000 in
theorem l4findT (f : B) (a : Option Addr) (l c : Nat) (x : Int) (w : World) (h : SlB w a l f) :
    Calls Try.prog 79 #[.slice a l c, .int .i64 x] w fun e u => e = .returned (.int .i64 (findV f x 0)) ∧ w.grownBy u none := by
  have hl := h.2.1
  have hfl := h.1
  rcases h.cases with ⟨rfl, rfl⟩ | ⟨b, o, rfl, hin, -, hpos⟩
  · go_enter Try.func79, Try.ntmps79
    go_wp2
    refine wp_loop_rounds 1 ?_
    rw [rounds_succ]
    go_wp2
    go_ret
    exact ⟨rfl, World.grownBy.refl _ _⟩
  have IN : Hid (InB w f b o) := hin
  clear hin h
  go_enter Try.func79, Try.ntmps79
  go_wp2
  go_loopw [5] (fun i wr => ∃ (j : Nat) (R : B), j ≤ l ∧ i = .int .i64 j ∧ R.len + j = l ∧ Hid (w.grownBy wr none ∧ InB wr R b (o + j * 4) ∧ findV f x 0 = findV R x j)) (fun i _ => l - (intOf i).toNat)
  case atStart => exact ⟨0, f, Nat.zero_le _, rfl, by omega, World.grownBy.refl _ _, by simpa using IN.out, rfl⟩
  case round =>
    obtain ⟨j, R, hj, rfl, hRl, HR⟩ := hrel
    by_cases hlt : j < l
    · obtain ⟨q, hq⟩ : ∃ q, R.len = q + 1 := ⟨R.len - 1, by omega⟩
      obtain ⟨vv, kk, nn, d, R', rfl, hR'⟩ := B.cons_of_len hq
      obtain ⟨hg, ⟨⟨a1, l1, x1, ⟨c0, c1, c2, c3⟩, hd⟩, hR2⟩, hv⟩ := HR.out
      have e3 : o + j * 4 + 4 = o + (j + 1) * 4 := by omega
      rw [e3] at hR2
      by_cases hx : vv = x
      · subst hx
        have E : Hid (findV f vv 0 = (j : Int)) := by show _ = _; rw [hv, findV, if_pos rfl]
        have G : Hid (w.grownBy wr none) := hg
        clear HR hd hR2 hg hv IN
        go_wp2
        go_ret
        exact ⟨by rw [E.out]; rfl, G.out⟩
      · have hx' : (vv == x) = false := by simpa using hx
        have FX : Hid (w.grownBy wr none ∧ InB wr R' b (o + (j + 1) * 4) ∧ findV f x 0 = findV R' x (j + 1)) := ⟨hg, hR2, by rw [hv, findV, if_neg hx]⟩
        clear HR hd hR2 hg hv IN hx
        go_wp2
        go_roundw
        case rel => exact ⟨j + 1, R', by omega, by go_num, by omega, FX⟩
        case measure => simp [intOf]; omega
    · obtain rfl : j = l := by omega
      obtain rfl : R = .nil := B.nil_of_len (by omega)
      have E : Hid (findV f x 0 = -1 ∧ w.grownBy wr none) := ⟨HR.out.2.2, HR.out.1⟩
      clear HR IN
      go_wp2
      go_ret
      exact ⟨by rw [E.out.1]; rfl, E.out.2⟩
end Go.Proofs.Ytmlganaiajhjeaa.By

namespace Go.Proofs.Ytmlganaiajhjeaa.By
open Go.RowKit
set_option linter.unusedVariables false
set_option linter.unusedSimpArgs false

/-- What the table has for the kinds below 6. -/
def fixV (k : Int) : Value :=
  if k = 1 then .agg #[.string ⟨#[105, 110, 116]⟩, .int .i64 0, .bool false]
  else if k = 2 then .agg #[.string ⟨#[116, 101, 120, 116]⟩, .int .i64 0, .bool true]
  else if k = 3 then .agg #[.string ⟨#[112, 97, 105, 114]⟩, .int .i64 2, .bool true]
  else if k = 4 then .agg #[.string ⟨#[102, 117, 110]⟩, .int .i64 2, .bool true]
  else if k = 5 then .agg #[.string ⟨#[114, 101, 102]⟩, .int .i64 1, .bool true]
  else .agg #[.string ⟨#[117, 110, 105, 116]⟩, .int .i64 0, .bool false]
/-- The shape of a kind. -/
def shpV (k : Int) : Value :=
  if k = 6 then .iface 116 (.agg #[])
  else if k = 7 then .iface 106 (.agg #[])
  else if k < 0 ∨ 7 < k then .iface 117 (.agg #[])
  else .iface 119 (fixV k)

theorem fixT (k : Int) (h0 : 0 ≤ k) (h1 : k ≤ 5) (w : World) :
    Calls Try.prog 80 #[.int .i64 k] w fun e u => e = .returned (fixV k) ∧ w.grownBy u none := by
  have hk : k = 0 ∨ k = 1 ∨ k = 2 ∨ k = 3 ∨ k = 4 ∨ k = 5 := by omega
  clear h0 h1
  rcases hk with rfl | rfl | rfl | rfl | rfl | rfl
  all_goals (go_enter Try.func80, Try.ntmps80; go_wp2; go_returns; exact ⟨rfl, World.grownBy_alloc _ _ _⟩)

set_option maxHeartbeats 400000 in
theorem shpT (k : Int) (w : World) :
    Calls Try.prog 72 #[.int .i64 k] w fun e u => e = .returned (shpV k) ∧ w.grownBy u none := by
  by_cases h6 : k = 6
  · subst h6
    go_enter Try.func72, Try.ntmps72
    go_wp2
    go_ret
    exact ⟨rfl, World.grownBy.refl _ _⟩
  by_cases h7 : k = 7
  · subst h7
    go_enter Try.func72, Try.ntmps72
    go_wp2
    go_ret
    exact ⟨rfl, World.grownBy.refl _ _⟩
  by_cases hx : k < 0
  · have E : Hid (shpV k = .iface 117 (.agg #[])) := by show shpV k = _; unfold shpV; rw [if_neg h6, if_neg h7, if_pos (.inl hx)]
    go_enter Try.func72, Try.ntmps72
    go_wp2
    go_ret
    exact ⟨by rw [E.out]; rfl, World.grownBy.refl _ _⟩
  by_cases hy : 7 < k
  · have E : Hid (shpV k = .iface 117 (.agg #[])) := by show shpV k = _; unfold shpV; rw [if_neg h6, if_neg h7, if_pos (.inr hy)]
    go_enter Try.func72, Try.ntmps72
    go_wp2
    go_ret
    exact ⟨by rw [E.out]; rfl, World.grownBy.refl _ _⟩
  have E : Hid (shpV k = .iface 119 (fixV k)) := by show shpV k = _; unfold shpV; rw [if_neg h6, if_neg h7, if_neg (by omega)]
  have CC : Hid _ := fixT k (by omega) (by omega) w
  go_enter Try.func72, Try.ntmps72
  go_wp2_with fail
  refine Calls.mono CC.out ?_
  rintro e u ⟨rfl, hg⟩
  have G : Hid (w.grownBy u none) := hg
  clear hg CC
  simp only []
  go_wp2
  go_ret
  exact ⟨by rw [E.out]; rfl, G.out⟩

theorem asVarVar (w : World) : Sem.run Try.prog (Instr.typeAssert (.iface 106 (.agg #[])) 101 106 true) w = .ok (.tuple #[.agg #[], .bool true]) w := by kernel_rfl
theorem asVarData (w : World) : Sem.run Try.prog (Instr.typeAssert (.iface 116 (.agg #[])) 101 106 true) w = .ok (.tuple #[.agg #[], .bool false]) w := by kernel_rfl
theorem asVarFix (v : Value) (w : World) : Sem.run Try.prog (Instr.typeAssert (.iface 119 v) 101 106 true) w = .ok (.tuple #[.agg #[], .bool false]) w := by kernel_rfl
theorem asVarNo (w : World) : Sem.run Try.prog (Instr.typeAssert (.iface 117 (.agg #[])) 101 106 true) w = .ok (.tuple #[.agg #[], .bool false]) w := by kernel_rfl
theorem asDataVar (w : World) : Sem.run Try.prog (Instr.typeAssert (.iface 106 (.agg #[])) 101 116 true) w = .ok (.tuple #[.agg #[], .bool false]) w := by kernel_rfl
theorem asDataData (w : World) : Sem.run Try.prog (Instr.typeAssert (.iface 116 (.agg #[])) 101 116 true) w = .ok (.tuple #[.agg #[], .bool true]) w := by kernel_rfl
theorem asDataFix (v : Value) (w : World) : Sem.run Try.prog (Instr.typeAssert (.iface 119 v) 101 116 true) w = .ok (.tuple #[.agg #[], .bool false]) w := by kernel_rfl
theorem asDataNo (w : World) : Sem.run Try.prog (Instr.typeAssert (.iface 117 (.agg #[])) 101 116 true) w = .ok (.tuple #[.agg #[], .bool false]) w := by kernel_rfl
theorem asFixFix (v : Value) (w : World) : Sem.run Try.prog (Instr.typeAssert (.iface 119 v) 101 119 true) w = .ok (.tuple #[v, .bool true]) w := by kernel_rfl
theorem asFixVar (w : World) : Sem.run Try.prog (Instr.typeAssert (.iface 106 (.agg #[])) 101 119 true) w = .ok (.tuple #[.agg #[.string ⟨#[]⟩, .int .i64 0, .bool false], .bool false]) w := by kernel_rfl
theorem asFixData (w : World) : Sem.run Try.prog (Instr.typeAssert (.iface 116 (.agg #[])) 101 119 true) w = .ok (.tuple #[.agg #[.string ⟨#[]⟩, .int .i64 0, .bool false], .bool false]) w := by kernel_rfl
theorem asFixNo (w : World) : Sem.run Try.prog (Instr.typeAssert (.iface 117 (.agg #[])) 101 119 true) w = .ok (.tuple #[.agg #[.string ⟨#[]⟩, .int .i64 0, .bool false], .bool false]) w := by kernel_rfl
theorem methVar (w : World) : Sem.run Try.prog (method 261 106 (.agg #[]) "loop.example/g00293/impl.fits") w = .ok (117, .agg #[]) w := by kernel_rfl
theorem methData (w : World) : Sem.run Try.prog (method 261 116 (.agg #[]) "loop.example/g00293/impl.fits") w = .ok (119, .agg #[]) w := by kernel_rfl
theorem methNo (w : World) : Sem.run Try.prog (method 261 117 (.agg #[]) "loop.example/g00293/impl.fits") w = .ok (121, .agg #[]) w := by kernel_rfl
theorem methFix (v : Value) (w : World) : Sem.run Try.prog (method 261 119 v "loop.example/g00293/impl.fits") w = .ok (123, v) w := by kernel_rfl

set_option maxHeartbeats 400000 in
theorem varFits (n : Int) (l : Nat) (w : World) :
    Calls Try.prog 117 #[.agg #[], .int .i64 n, .int .i64 l] w fun e u => e = .returned (.bool (fitsB 7 n l)) ∧ w.grownBy u none := by
  have E : Hid (fitsB 7 n l = _) := fits7
  by_cases h1 : 0 ≤ n
  · by_cases h2 : n ≤ 99999
    · by_cases h3 : l = 0
      · subst h3
        have h2' : n < 100000 := by omega
        go_enter Try.func117, Try.ntmps117
        go_wp2
        go_ret
        exact ⟨by rw [E.out]; simp [h1, h2], World.grownBy_alloc _ _ _⟩
      · have h3' : ¬ (l : Int) = 0 := by omega
        have h2' : n < 100000 := by omega
        go_enter Try.func117, Try.ntmps117
        go_wp2
        go_ret
        exact ⟨by rw [E.out]; simp [h3], World.grownBy_alloc _ _ _⟩
    · have h2' : ¬ n < 100000 := by omega
      go_enter Try.func117, Try.ntmps117
      go_wp2
      go_ret
      exact ⟨by rw [E.out]; simp [h2], World.grownBy_alloc _ _ _⟩
  · go_enter Try.func117, Try.ntmps117
    go_wp2
    go_ret
    exact ⟨by rw [E.out]; simp; omega, World.grownBy_alloc _ _ _⟩

set_option maxHeartbeats 400000 in
theorem dataFits (n : Int) (l : Nat) (w : World) :
    Calls Try.prog 119 #[.agg #[], .int .i64 n, .int .i64 l] w fun e u => e = .returned (.bool (fitsB 6 n l)) ∧ w.grownBy u none := by
  have hl0 : (0 : Int) ≤ l := by omega
  by_cases h1 : 0 ≤ n
  · by_cases h2 : n ≤ 19
    · have h2' : n < 20 := by omega
      by_cases h3 : l ≤ 3
      · have h3' : (l : Int) ≤ 3 := by omega
        have E : Hid (fitsB 6 n l = true) := by show _ = _; rw [fits6 h3]; simp [h1, h2]
        go_enter Try.func119, Try.ntmps119
        go_wp2
        go_ret
        exact ⟨by rw [E.out]; simp [h3'], World.grownBy_alloc _ _ _⟩
      · have h3' : ¬ (l : Int) ≤ 3 := by omega
        have E : Hid (fitsB 6 n l = false) := fits6x h3
        go_enter Try.func119, Try.ntmps119
        go_wp2
        go_ret
        exact ⟨by rw [E.out]; first | rfl | (simp; done) | (simp; omega), World.grownBy_alloc _ _ _⟩
    · have h2' : ¬ n < 20 := by omega
      have E : Hid (fitsB 6 n l = false) := by
        show _ = _
        by_cases h3 : l ≤ 3
        · rw [fits6 h3]; simp [h2]
        · exact fits6x h3
      go_enter Try.func119, Try.ntmps119
      go_wp2
      go_ret
      exact ⟨by rw [E.out]; rfl, World.grownBy_alloc _ _ _⟩
  · have E : Hid (fitsB 6 n l = false) := by
      show _ = _
      by_cases h3 : l ≤ 3
      · rw [fits6 h3]; simp; omega
      · exact fits6x h3
    go_enter Try.func119, Try.ntmps119
    go_wp2
    go_ret
    exact ⟨by rw [E.out]; rfl, World.grownBy_alloc _ _ _⟩

theorem noFits (n : Int) (l : Nat) (w : World) :
    Calls Try.prog 121 #[.agg #[], .int .i64 n, .int .i64 l] w fun e u => e = .returned (.bool (fitsB 8 n l)) ∧ w.grownBy u none := by
  have E : Hid (fitsB 8 n l = false) := fitsx (by omega) (by omega) (by omega) (by omega) (by omega) (by omega) (by omega) (by omega)
  go_enter Try.func121, Try.ntmps121
  go_wp2
  go_ret
  exact ⟨by rw [E.out]; rfl, World.grownBy_alloc _ _ _⟩

set_option maxHeartbeats 400000 in
theorem fixFits (s : ByteArray) (b : Bool) (z n : Int) (l : Nat) (w : World) :
    Calls Try.prog 123 #[.agg #[.string s, .int .i64 z, .bool b], .int .i64 n, .int .i64 l] w fun e u => e = .returned (.bool (decide (n = 0) && decide ((l : Int) = z))) ∧ w.grownBy u none := by
  by_cases h1 : n = 0
  · subst h1
    go_enter Try.func123, Try.ntmps123
    go_wp2
    go_ret
    exact ⟨by simp; rfl, World.grownBy_alloc _ _ _⟩
  · go_enter Try.func123, Try.ntmps123
    go_wp2
    go_ret
    exact ⟨by simp [h1], World.grownBy_alloc _ _ _⟩
end Go.Proofs.Ytmlganaiajhjeaa.By
