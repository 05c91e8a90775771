/-
  Binds that may be: the lists' side; the specification's search. No statement is proved here.
-/
import Derived.Test.YtmlganaiajhjeaaUB
import Derived.Test.YtmlganaiajhjeaaTVm
import Derived.Deep.DeepCutAuto
namespace Go.Proofs.Ytmlganaiajhjeaa.By
open Go.RowKit
set_option linter.unusedVariables false
set_option linter.unusedSimpArgs false

def B.dom : B → List Int
  | .nil => []
  | .cons v _ _ _ r => v :: r.dom
theorem B.dom_app (f g : B) : (f.app g).dom = f.dom ++ g.dom := by
  induction f with
  | nil => rfl
  | cons v k n d r ih => simp [B.app, B.dom, ih]
theorem B.dom_len (f : B) : f.dom.length = f.len := by
  induction f with
  | nil => rfl
  | cons v k n d r ih => simp [B.len, B.dom, ih]
def B.find : B → Int → Option (Int × Int × F)
  | .nil, _ => none
  | .cons v k n d r, x => if v = x then some (k, n, d) else r.find x
theorem B.find_dom (f : B) (x : Int) : (f.find x).isSome = f.dom.contains x := by
  induction f with
  | nil => rfl
  | cons v k n d r ih =>
    by_cases h : v = x
    · simp [B.find, B.dom, h]
    · rw [B.find, if_neg h, ih, B.dom, List.contains_cons]
      have : (x == v) = false := by simp; exact fun e => h e.symm
      rw [this, Bool.false_or]
theorem B.find_app (f g : B) (x : Int) : (f.app g).find x = match f.find x with | some y => some y | none => g.find x := by
  induction f with
  | nil => rfl
  | cons v k n d r ih =>
    simp only [B.app, B.find]
    by_cases h : v = x
    · rw [if_pos h, if_pos h]
    · rw [if_neg h, if_neg h, ih]
/-- The first place of a variable, from j on; -1: there is none. -/
def findV : B → Int → Nat → Int
  | .nil, _, _ => -1
  | .cons v _ _ _ r, x, j => if v = x then (j : Int) else findV r x (j + 1)
theorem findV_ge (f : B) (x : Int) : ∀ j, -1 ≤ findV f x j ∧ findV f x j < j + f.len := by
  induction f with
  | nil => intro j; simp [findV, B.len]; omega
  | cons v k n d r ih =>
    intro j
    have := ih (j + 1)
    simp only [findV, B.len]
    split <;> omega
theorem findV_dom (f : B) (x : Int) : ∀ j, decide (0 ≤ findV f x j) = f.dom.contains x := by
  induction f with
  | nil => intro j; rfl
  | cons v k n d r ih =>
    intro j
    by_cases h : v = x
    · simp [findV, B.dom, h]
    · rw [findV, if_neg h, ih, B.dom, List.contains_cons]
      have : (x == v) = false := by simp; exact fun e => h e.symm
      rw [this, Bool.false_or]
/-- x may not stand in what is bound to v behind P. -/
def badX (P : B) (v x : Int) : Bool := decide (x = v) || P.dom.contains x
def okB1 (P : B) (v k n : Int) (d : F) : Bool := decide (0 ≤ v) && (decide (v < 100000) && (okT k n d && (!P.dom.contains v && !(vT k n d).any (badX P v))))
def bindsR : B → B → Bool
  | _, .nil => true
  | P, .cons v k n d r => okB1 P v k n d && bindsR (P.app (.cons v k n d .nil)) r
def bindsV (L : B) : Bool := decide (L.len ≤ 400) && bindsR .nil L
theorem any_mem {l l' : List Int} {p : Int → Bool} (h : ∀ y, y ∈ l ↔ y ∈ l') : l.any p = l'.any p := by
  rw [Bool.eq_iff_iff, List.any_eq_true, List.any_eq_true]
  exact ⟨fun ⟨x, hx, hp⟩ => ⟨x, (h x).1 hx, hp⟩, fun ⟨x, hx, hp⟩ => ⟨x, (h x).2 hx, hp⟩⟩
theorem any_ins (vs : List Int) (p : Int → Bool) : (insL [] vs).any p = vs.any p := any_mem fun y => by rw [insL_mem]; simp

set_option maxHeartbeats 1000000 in
theorem l4findT (f : B) (a : Option Addr) (l c : Nat) (x : Int) (w : World) (h : SlB w a l f) :
    Calls Try.prog 79 #[.slice a l c, .int .i64 x] w fun e u => e = .returned (.int .i64 (findV f x 0)) ∧ w.grownBy u none := by
  have hl := h.2.1
  have hfl := h.1
  rcases h.cases with ⟨rfl, rfl⟩ | ⟨b, o, rfl, hin, -, hpos⟩
  · go_enter Try.func79, Try.ntmps79
    go_wp2
    refine wp_loop_rounds 1 ?_
    rw [rounds_succ]
    go_wp2
    go_ret
    exact ⟨rfl, World.grownBy.refl _ _⟩
  have IN : Hid (InB w f b o) := hin
  clear hin h
  go_enter Try.func79, Try.ntmps79
  go_wp2
  go_loopw [5] (fun i wr => ∃ (j : Nat) (R : B), j ≤ l ∧ i = .int .i64 j ∧ R.len + j = l ∧ Hid (w.grownBy wr none ∧ InB wr R b (o + j * 4) ∧ findV f x 0 = findV R x j)) (fun i _ => l - (intOf i).toNat)
  case atStart => exact ⟨0, f, Nat.zero_le _, rfl, by omega, World.grownBy.refl _ _, by simpa using IN.out, rfl⟩
  case round =>
    obtain ⟨j, R, hj, rfl, hRl, HR⟩ := hrel
    by_cases hlt : j < l
    · obtain ⟨q, hq⟩ : ∃ q, R.len = q + 1 := ⟨R.len - 1, by omega⟩
      obtain ⟨vv, kk, nn, d, R', rfl, hR'⟩ := B.cons_of_len hq
      obtain ⟨hg, ⟨⟨a1, l1, x1, ⟨c0, c1, c2, c3⟩, hd⟩, hR2⟩, hv⟩ := HR.out
      have e3 : o + j * 4 + 4 = o + (j + 1) * 4 := by omega
      rw [e3] at hR2
      by_cases hx : vv = x
      · subst hx
        have E : Hid (findV f vv 0 = (j : Int)) := by show _ = _; rw [hv, findV, if_pos rfl]
        have G : Hid (w.grownBy wr none) := hg
        clear HR hd hR2 hg hv IN
        go_wp2
        go_ret
        exact ⟨by rw [E.out]; rfl, G.out⟩
      · have hx' : (vv == x) = false := by simpa using hx
        have FX : Hid (w.grownBy wr none ∧ InB wr R' b (o + (j + 1) * 4) ∧ findV f x 0 = findV R' x (j + 1)) := ⟨hg, hR2, by rw [hv, findV, if_neg hx]⟩
        clear HR hd hR2 hg hv IN hx
        go_wp2
        go_roundw
        case rel => exact ⟨j + 1, R', by omega, by go_num, by omega, FX⟩
        case measure => simp [intOf]; omega
    · obtain rfl : j = l := by omega
      obtain rfl : R = .nil := B.nil_of_len (by omega)
      have E : Hid (findV f x 0 = -1 ∧ w.grownBy wr none) := ⟨HR.out.2.2, HR.out.1⟩
      clear HR IN
      go_wp2
      go_ret
      exact ⟨by rw [E.out.1]; rfl, E.out.2⟩
end Go.Proofs.Ytmlganaiajhjeaa.By
