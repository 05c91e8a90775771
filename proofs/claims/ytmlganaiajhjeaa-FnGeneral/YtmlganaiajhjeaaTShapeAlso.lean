/-
  Several texts in one (TVm, UF, TShape). No statement is proved here.
-/
import Derived.Test.YtmlganaiajhjeaaTOk
import Derived.Lib.SlicesCompact
import Derived.Test.YtmlganaiajhjeaaUBAlso
import Derived.Deep.DeepCutAuto
import Derived.Deep.RegionHeld
namespace Go.Proofs.Ytmlganaiajhjeaa.By
open Go.RowKit
set_option linter.unusedVariables false

/-- Put in its place, unless it is there. -/
def insV : List Int → Int → List Int
  | [], n => [n]
  | x :: l, n => if x < n then x :: insV l n else if x = n then x :: l else n :: x :: l
def insL (l vs : List Int) : List Int := vs.foldl insV l
theorem insV_mem (l : List Int) (n y : Int) : y ∈ insV l n ↔ y = n ∨ y ∈ l := by
  induction l with
  | nil => simp [insV]
  | cons x l ih =>
    rw [insV]
    split
    · simp only [List.mem_cons, ih]
      constructor
      · rintro (h | h | h) <;> simp [h]
      · rintro (h | h | h) <;> simp [h]
    · split
      · rename_i _ e
        subst e
        simp only [List.mem_cons]
        constructor
        · intro h; exact Or.inr h
        · rintro (h | h)
          · exact Or.inl h
          · exact h
      · simp only [List.mem_cons]
theorem insV_sorted (l : List Int) (n : Int) (h : l.Pairwise (· < ·)) : (insV l n).Pairwise (· < ·) := by
  induction l with
  | nil => simp [insV]
  | cons x l ih =>
    rw [List.pairwise_cons] at h
    rw [insV]
    split
    · rename_i hx
      rw [List.pairwise_cons]
      refine ⟨fun y hy => ?_, ih h.2⟩
      rcases (insV_mem l n y).1 hy with e | hy
      · rw [e]; exact hx
      · exact h.1 y hy
    · split
      · rw [List.pairwise_cons]; exact h
      · rw [List.pairwise_cons, List.pairwise_cons]
        refine ⟨fun y hy => ?_, h⟩
        rcases List.mem_cons.1 hy with e | hy
        · omega
        · have := h.1 y hy; omega
theorem insL_mem (vs : List Int) : ∀ (l : List Int) (y : Int), y ∈ insL l vs ↔ y ∈ vs ∨ y ∈ l := by
  induction vs with
  | nil => intro l y; simp [insL]
  | cons v vs ih =>
    intro l y
    have e : insL l (v :: vs) = insL (insV l v) vs := rfl
    rw [e, ih, insV_mem, List.mem_cons]
    constructor
    · rintro (h | h | h) <;> simp [h]
    · rintro ((h | h) | h) <;> simp [h]
theorem insL_sorted (vs : List Int) : ∀ (l : List Int), l.Pairwise (· < ·) → (insL l vs).Pairwise (· < ·) := by
  induction vs with
  | nil => intro l h; exact h
  | cons v vs ih => intro l h; exact ih _ (insV_sorted l v h)
theorem insL_app (l vs us : List Int) : insL l (vs ++ us) = insL (insL l vs) us := by simp [insL, List.foldl_append]
theorem insV_len (l : List Int) (n : Int) : (insV l n).length ≤ l.length + 1 := by
  induction l with
  | nil => simp [insV]
  | cons x l ih =>
    rw [insV]
    split
    · simp only [List.length_cons]; omega
    · split <;> simp only [List.length_cons] <;> omega
theorem insL_len (vs : List Int) : ∀ (l : List Int), (insL l vs).length ≤ l.length + vs.length := by
  induction vs with
  | nil => intro l; simp [insL]
  | cons v vs ih => intro l; have h1 := ih (insV l v); have h2 := insV_len l v; have e : insL l (v :: vs) = insL (insV l v) vs := rfl; rw [e]; simp only [List.length_cons]; omega
/-- Two lists that grow and have the same members are one. -/
theorem one_of_members : ∀ (a b : List Int), a.Pairwise (· < ·) → b.Pairwise (· < ·) → (∀ y, y ∈ a ↔ y ∈ b) → a = b := by
  intro a
  induction a with
  | nil =>
    intro b _ _ h
    cases b with
    | nil => rfl
    | cons y b => exact absurd ((h y).2 (by simp)) (by simp)
  | cons x a ih =>
    intro b ha hb h
    cases b with
    | nil => exact absurd ((h x).1 (by simp)) (by simp)
    | cons y b =>
      rw [List.pairwise_cons] at ha hb
      have hxy : x = y := by
        rcases List.mem_cons.1 ((h x).1 (by simp)) with e | hx
        · exact e
        · rcases List.mem_cons.1 ((h y).2 (by simp)) with e | hy
          · exact e.symm
          · have := ha.1 y hy; have := hb.1 x hx; omega
      subst hxy
      congr 1
      refine ih b ha.2 hb.2 (fun z => ?_)
      constructor
      · intro hz
        rcases List.mem_cons.1 ((h z).1 (List.mem_cons_of_mem _ hz)) with e | hz'
        · have := ha.1 z hz; omega
        · exact hz'
      · intro hz
        rcases List.mem_cons.1 ((h z).2 (List.mem_cons_of_mem _ hz)) with e | hz'
        · have := hb.1 z hz; omega
        · exact hz'
theorem compactUp (zs : List Int) (hs : zs.Pairwise (· ≤ ·)) : ∀ m, m ≤ zs.length → (Lib.compactUpTo zs.toArray m).Pairwise (· < ·) ∧ ∀ y, y ∈ Lib.compactUpTo zs.toArray m ↔ ∃ j, j < m ∧ zs[j]? = some y := by
  have hg : ∀ j, j < zs.length → zs[j]? = some (zs.toArray[j]!) := fun j hj => by
    rw [List.getElem?_eq_getElem hj]
    simp [hj]
  intro m
  induction m with
  | zero => intro _; exact ⟨by simp [Lib.compactUpTo], fun y => by simp [Lib.compactUpTo]⟩
  | succ m ih =>
    intro hm
    obtain ⟨h1, h2⟩ := ih (by omega)
    rw [Lib.compactUpTo_succ]
    by_cases hk : Lib.keeps zs.toArray m = true
    · rw [if_pos hk]
      refine ⟨?_, fun y => ?_⟩
      · rw [List.pairwise_append]
        refine ⟨h1, by simp, fun x hx y hy => ?_⟩
        obtain ⟨j, hj, hjx⟩ := (h2 x).1 hx
        rw [List.mem_singleton] at hy
        subst hy
        have hne : zs.toArray[m]! ≠ zs.toArray[m - 1]! := by
          simp only [Lib.keeps, decide_eq_true_eq] at hk
          rcases hk with hk | hk
          · omega
          · exact hk
        have e1 : zs.toArray[m]! = zs[m] := by simp [show m < zs.length from hm]
        have e2 : zs.toArray[m - 1]! = zs[m - 1] := by simp [show m - 1 < zs.length by omega]
        rw [e1, e2] at hne
        rw [e1]
        have e3 : x = zs[j] := by rw [List.getElem?_eq_getElem (by omega)] at hjx; exact (Option.some.inj hjx).symm
        rw [List.pairwise_iff_getElem] at hs
        have a1 : zs[m - 1] ≤ zs[m] := hs (m - 1) m (by omega) (by omega) (by omega)
        have a2 : zs[j] ≤ zs[m - 1] := by
          by_cases hjm : j = m - 1
          · subst hjm; exact Int.le_refl _
          · exact hs j (m - 1) (by omega) (by omega) (by omega)
        rw [e3]; omega
      · rw [List.mem_append, h2, List.mem_singleton]
        constructor
        · rintro (⟨j, hj, e⟩ | e)
          · exact ⟨j, by omega, e⟩
          · exact ⟨m, by omega, by rw [e]; exact hg m hm⟩
        · rintro ⟨j, hj, e⟩
          by_cases hjm : j = m
          · subst hjm
            right
            have := hg j hm
            rw [this] at e
            exact (Option.some.inj e).symm
          · exact Or.inl ⟨j, by omega, e⟩
    · rw [if_neg hk, List.append_nil]
      refine ⟨h1, fun y => ?_⟩
      rw [h2]
      simp only [Lib.keeps, decide_eq_true_eq, not_or, Decidable.not_not] at hk
      constructor
      · rintro ⟨j, hj, e⟩; exact ⟨j, by omega, e⟩
      · rintro ⟨j, hj, e⟩
        by_cases hjm : j = m
        · subst hjm
          refine ⟨j - 1, by omega, ?_⟩
          rw [hg (j - 1) (by omega), ← hk.2, ← hg j hm]; exact e
        · exact ⟨j, by omega, e⟩
/-- What is sorted and made compact is what was put in its place, one by one. -/
theorem sorted_compact (vs : List Int) : Lib.compact (vs.mergeSort fun x y => decide (x ≤ y)) = insL [] vs := by
  have hs : (vs.mergeSort fun x y => decide (x ≤ y)).Pairwise (· ≤ ·) := by
    have := List.pairwise_mergeSort (le := fun x y => decide (x ≤ y)) (fun a b c h1 h2 => by simp only [decide_eq_true_eq] at *; omega) (fun a b => by simp only [Bool.or_eq_true, decide_eq_true_eq]; omega) vs
    exact this.imp (fun h => by simpa using h)
  obtain ⟨h1, h2⟩ := compactUp _ hs _ (Nat.le_refl _)
  refine one_of_members _ _ h1 (insL_sorted vs [] List.Pairwise.nil) (fun y => ?_)
  rw [show Lib.compact (vs.mergeSort fun x y => decide (x ≤ y)) = Lib.compactUpTo (vs.mergeSort fun x y => decide (x ≤ y)).toArray (vs.mergeSort fun x y => decide (x ≤ y)).length from rfl, h2, insL_mem]
  constructor
  · rintro ⟨j, hj, e⟩
    left
    rw [← List.mem_mergeSort (le := fun x y => decide (x ≤ y))]
    exact List.mem_of_getElem? e
  · rintro (h | h)
    · rw [← List.mem_mergeSort (le := fun x y => decide (x ≤ y))] at h
      obtain ⟨j, hj, e⟩ := List.getElem_of_mem h
      exact ⟨j, hj, by rw [List.getElem?_eq_getElem hj, e]⟩
    · simp at h
/-- The variables of a list of trees, as they come. -/
def varsF : F → List Int
  | .nil => []
  | .cons k n d r => (if k = 7 then [n] else varsF d) ++ varsF r
def vT (k n : Int) (d : F) : List Int := if k = 7 then [n] else varsF d
theorem varsF_len (f : F) : (varsF f).length ≤ f.size := by
  induction f with
  | nil => simp [varsF, F.size]
  | cons k n d r ihd ihr =>
    rw [varsF, List.length_append, F.size]
    split
    · simp only [List.length_singleton]; omega
    · omega
theorem vT_len (k n : Int) (d : F) : (vT k n d).length ≤ 1 + d.size := by
  unfold vT
  have := varsF_len d
  split
  · simp only [List.length_singleton]; omega
  · omega
/-- What TyVars answers. -/
def varsV (k n : Int) (d : F) : List Int := if okT k n d = true then insL [] (vT k n d) else []
theorem varsV_len (k n : Int) (d : F) : (varsV k n d).length ≤ 60 := by
  unfold varsV
  by_cases h : okT k n d = true
  · rw [if_pos h]
    simp only [okT, Bool.and_eq_true, decide_eq_true_eq] at h
    have h1 := insL_len (vT k n d) []
    have h2 := vT_len k n d
    simp only [List.length_nil] at h1
    omega
  · rw [if_neg h]; simp
end Go.Proofs.Ytmlganaiajhjeaa.By

namespace Go.Proofs.Ytmlganaiajhjeaa.By
open Go.RowKit
set_option linter.unusedVariables false
set_option linter.unusedSimpArgs false

def B.dom : B → List Int
  | .nil => []
  | .cons v _ _ _ r => v :: r.dom
theorem B.dom_app (f g : B) : (f.app g).dom = f.dom ++ g.dom := by
  induction f with
  | nil => rfl
  | cons v k n d r ih => simp [B.app, B.dom, ih]
theorem B.dom_len (f : B) : f.dom.length = f.len := by
  induction f with
  | nil => rfl
  | cons v k n d r ih => simp [B.len, B.dom, ih]
def B.find : B → Int → Option (Int × Int × F)
  | .nil, _ => none
  | .cons v k n d r, x => if v = x then some (k, n, d) else r.find x
theorem B.find_dom (f : B) (x : Int) : (f.find x).isSome = f.dom.contains x := by
  induction f with
  | nil => rfl
  | cons v k n d r ih =>
    by_cases h : v = x
    · simp [B.find, B.dom, h]
    · rw [B.find, if_neg h, ih, B.dom, List.contains_cons]
      have : (x == v) = false := by simp; exact fun e => h e.symm
      rw [this, Bool.false_or]
theorem B.find_app (f g : B) (x : Int) : (f.app g).find x = match f.find x with | some y => some y | none => g.find x := by
  induction f with
  | nil => rfl
  | cons v k n d r ih =>
    simp only [B.app, B.find]
    by_cases h : v = x
    · rw [if_pos h, if_pos h]
    · rw [if_neg h, if_neg h, ih]
/-- The first place of a variable, from j on; -1: there is none. -/
def findV : B → Int → Nat → Int
  | .nil, _, _ => -1
  | .cons v _ _ _ r, x, j => if v = x then (j : Int) else findV r x (j + 1)
theorem findV_ge (f : B) (x : Int) : ∀ j, -1 ≤ findV f x j ∧ findV f x j < j + f.len := by
  induction f with
  | nil => intro j; simp [findV, B.len]; omega
  | cons v k n d r ih =>
    intro j
    have := ih (j + 1)
    simp only [findV, B.len]
    split <;> omega
theorem findV_dom (f : B) (x : Int) : ∀ j, decide (0 ≤ findV f x j) = f.dom.contains x := by
  induction f with
  | nil => intro j; rfl
  | cons v k n d r ih =>
    intro j
    by_cases h : v = x
    · simp [findV, B.dom, h]
    · rw [findV, if_neg h, ih, B.dom, List.contains_cons]
      have : (x == v) = false := by simp; exact fun e => h e.symm
      rw [this, Bool.false_or]
/-- x may not stand in what is bound to v behind P. -/
def badX (P : B) (v x : Int) : Bool := decide (x = v) || P.dom.contains x
def okB1 (P : B) (v k n : Int) (d : F) : Bool := decide (0 ≤ v) && (decide (v < 100000) && (okT k n d && (!P.dom.contains v && !(vT k n d).any (badX P v))))
def bindsR : B → B → Bool
  | _, .nil => true
  | P, .cons v k n d r => okB1 P v k n d && bindsR (P.app (.cons v k n d .nil)) r
def bindsV (L : B) : Bool := decide (L.len ≤ 400) && bindsR .nil L
theorem any_mem {l l' : List Int} {p : Int → Bool} (h : ∀ y, y ∈ l ↔ y ∈ l') : l.any p = l'.any p := by
  rw [Bool.eq_iff_iff, List.any_eq_true, List.any_eq_true]
  exact ⟨fun ⟨x, hx, hp⟩ => ⟨x, (h x).1 hx, hp⟩, fun ⟨x, hx, hp⟩ => ⟨x, (h x).2 hx, hp⟩⟩
theorem any_ins (vs : List Int) (p : Int → Bool) : (insL [] vs).any p = vs.any p := any_mem fun y => by rw [insL_mem]; simp

set_option maxHeartbeats 1000000 in
theorem l4findT (f : B) (a : Option Addr) (l c : Nat) (x : Int) (w : World) (h : SlB w a l f) :
    Calls Try.prog 79 #[.slice a l c, .int .i64 x] w fun e u => e = .returned (.int .i64 (findV f x 0)) ∧ w.grownBy u none := by
  have hl := h.2.1
  have hfl := h.1
  rcases h.cases with ⟨rfl, rfl⟩ | ⟨b, o, rfl, hin, -, hpos⟩
  · go_enter Try.func79, Try.ntmps79
    go_wp2
    refine wp_loop_rounds 1 ?_
    rw [rounds_succ]
    go_wp2
    go_ret
    exact ⟨rfl, World.grownBy.refl _ _⟩
  have IN : Hid (InB w f b o) := hin
  clear hin h
  go_enter Try.func79, Try.ntmps79
  go_wp2
  go_loopw [5] (fun i wr => ∃ (j : Nat) (R : B), j ≤ l ∧ i = .int .i64 j ∧ R.len + j = l ∧ Hid (w.grownBy wr none ∧ InB wr R b (o + j * 4) ∧ findV f x 0 = findV R x j)) (fun i _ => l - (intOf i).toNat)
  case atStart => exact ⟨0, f, Nat.zero_le _, rfl, by omega, World.grownBy.refl _ _, by simpa using IN.out, rfl⟩
  case round =>
    obtain ⟨j, R, hj, rfl, hRl, HR⟩ := hrel
    by_cases hlt : j < l
    · obtain ⟨q, hq⟩ : ∃ q, R.len = q + 1 := ⟨R.len - 1, by omega⟩
      obtain ⟨vv, kk, nn, d, R', rfl, hR'⟩ := B.cons_of_len hq
      obtain ⟨hg, ⟨⟨a1, l1, x1, ⟨c0, c1, c2, c3⟩, hd⟩, hR2⟩, hv⟩ := HR.out
      have e3 : o + j * 4 + 4 = o + (j + 1) * 4 := by omega
      rw [e3] at hR2
      by_cases hx : vv = x
      · subst hx
        have E : Hid (findV f vv 0 = (j : Int)) := by show _ = _; rw [hv, findV, if_pos rfl]
        have G : Hid (w.grownBy wr none) := hg
        clear HR hd hR2 hg hv IN
        go_wp2
        go_ret
        exact ⟨by rw [E.out]; rfl, G.out⟩
      · have hx' : (vv == x) = false := by simpa using hx
        have FX : Hid (w.grownBy wr none ∧ InB wr R' b (o + (j + 1) * 4) ∧ findV f x 0 = findV R' x (j + 1)) := ⟨hg, hR2, by rw [hv, findV, if_neg hx]⟩
        clear HR hd hR2 hg hv IN hx
        go_wp2
        go_roundw
        case rel => exact ⟨j + 1, R', by omega, by go_num, by omega, FX⟩
        case measure => simp [intOf]; omega
    · obtain rfl : j = l := by omega
      obtain rfl : R = .nil := B.nil_of_len (by omega)
      have E : Hid (findV f x 0 = -1 ∧ w.grownBy wr none) := ⟨HR.out.2.2, HR.out.1⟩
      clear HR IN
      go_wp2
      go_ret
      exact ⟨by rw [E.out.1]; rfl, E.out.2⟩
end Go.Proofs.Ytmlganaiajhjeaa.By

namespace Go.Proofs.Ytmlganaiajhjeaa.By
open Go.RowKit
set_option linter.unusedVariables false
set_option linter.unusedSimpArgs false

/-- What the table has for the kinds below 6. -/
def fixV (k : Int) : Value :=
  if k = 1 then .agg #[.string ⟨#[105, 110, 116]⟩, .int .i64 0, .bool false]
  else if k = 2 then .agg #[.string ⟨#[116, 101, 120, 116]⟩, .int .i64 0, .bool true]
  else if k = 3 then .agg #[.string ⟨#[112, 97, 105, 114]⟩, .int .i64 2, .bool true]
  else if k = 4 then .agg #[.string ⟨#[102, 117, 110]⟩, .int .i64 2, .bool true]
  else if k = 5 then .agg #[.string ⟨#[114, 101, 102]⟩, .int .i64 1, .bool true]
  else .agg #[.string ⟨#[117, 110, 105, 116]⟩, .int .i64 0, .bool false]
/-- The shape of a kind. -/
def shpV (k : Int) : Value :=
  if k = 6 then .iface 116 (.agg #[])
  else if k = 7 then .iface 106 (.agg #[])
  else if k < 0 ∨ 7 < k then .iface 117 (.agg #[])
  else .iface 119 (fixV k)

theorem fixT (k : Int) (h0 : 0 ≤ k) (h1 : k ≤ 5) (w : World) :
    Calls Try.prog 80 #[.int .i64 k] w fun e u => e = .returned (fixV k) ∧ w.grownBy u none := by
  have hk : k = 0 ∨ k = 1 ∨ k = 2 ∨ k = 3 ∨ k = 4 ∨ k = 5 := by omega
  clear h0 h1
  rcases hk with rfl | rfl | rfl | rfl | rfl | rfl
  all_goals (go_enter Try.func80, Try.ntmps80; go_wp2; go_returns; exact ⟨rfl, World.grownBy_alloc _ _ _⟩)

set_option maxHeartbeats 400000 in
theorem shpT (k : Int) (w : World) :
    Calls Try.prog 72 #[.int .i64 k] w fun e u => e = .returned (shpV k) ∧ w.grownBy u none := by
  by_cases h6 : k = 6
  · subst h6
    go_enter Try.func72, Try.ntmps72
    go_wp2
    go_ret
    exact ⟨rfl, World.grownBy.refl _ _⟩
  by_cases h7 : k = 7
  · subst h7
    go_enter Try.func72, Try.ntmps72
    go_wp2
    go_ret
    exact ⟨rfl, World.grownBy.refl _ _⟩
  by_cases hx : k < 0
  · have E : Hid (shpV k = .iface 117 (.agg #[])) := by show shpV k = _; unfold shpV; rw [if_neg h6, if_neg h7, if_pos (.inl hx)]
    go_enter Try.func72, Try.ntmps72
    go_wp2
    go_ret
    exact ⟨by rw [E.out]; rfl, World.grownBy.refl _ _⟩
  by_cases hy : 7 < k
  · have E : Hid (shpV k = .iface 117 (.agg #[])) := by show shpV k = _; unfold shpV; rw [if_neg h6, if_neg h7, if_pos (.inr hy)]
    go_enter Try.func72, Try.ntmps72
    go_wp2
    go_ret
    exact ⟨by rw [E.out]; rfl, World.grownBy.refl _ _⟩
  have E : Hid (shpV k = .iface 119 (fixV k)) := by show shpV k = _; unfold shpV; rw [if_neg h6, if_neg h7, if_neg (by omega)]
  have CC : Hid _ := fixT k (by omega) (by omega) w
  go_enter Try.func72, Try.ntmps72
  go_wp2_with fail
  refine Calls.mono CC.out ?_
  rintro e u ⟨rfl, hg⟩
  have G : Hid (w.grownBy u none) := hg
  clear hg CC
  simp only []
  go_wp2
  go_ret
  exact ⟨by rw [E.out]; rfl, G.out⟩

theorem asVarVar (w : World) : Sem.run Try.prog (Instr.typeAssert (.iface 106 (.agg #[])) 101 106 true) w = .ok (.tuple #[.agg #[], .bool true]) w := by kernel_rfl
theorem asVarData (w : World) : Sem.run Try.prog (Instr.typeAssert (.iface 116 (.agg #[])) 101 106 true) w = .ok (.tuple #[.agg #[], .bool false]) w := by kernel_rfl
theorem asVarFix (v : Value) (w : World) : Sem.run Try.prog (Instr.typeAssert (.iface 119 v) 101 106 true) w = .ok (.tuple #[.agg #[], .bool false]) w := by kernel_rfl
theorem asVarNo (w : World) : Sem.run Try.prog (Instr.typeAssert (.iface 117 (.agg #[])) 101 106 true) w = .ok (.tuple #[.agg #[], .bool false]) w := by kernel_rfl
theorem asDataVar (w : World) : Sem.run Try.prog (Instr.typeAssert (.iface 106 (.agg #[])) 101 116 true) w = .ok (.tuple #[.agg #[], .bool false]) w := by kernel_rfl
theorem asDataData (w : World) : Sem.run Try.prog (Instr.typeAssert (.iface 116 (.agg #[])) 101 116 true) w = .ok (.tuple #[.agg #[], .bool true]) w := by kernel_rfl
theorem asDataFix (v : Value) (w : World) : Sem.run Try.prog (Instr.typeAssert (.iface 119 v) 101 116 true) w = .ok (.tuple #[.agg #[], .bool false]) w := by kernel_rfl
theorem asDataNo (w : World) : Sem.run Try.prog (Instr.typeAssert (.iface 117 (.agg #[])) 101 116 true) w = .ok (.tuple #[.agg #[], .bool false]) w := by kernel_rfl
theorem asFixFix (v : Value) (w : World) : Sem.run Try.prog (Instr.typeAssert (.iface 119 v) 101 119 true) w = .ok (.tuple #[v, .bool true]) w := by kernel_rfl
theorem asFixVar (w : World) : Sem.run Try.prog (Instr.typeAssert (.iface 106 (.agg #[])) 101 119 true) w = .ok (.tuple #[.agg #[.string ⟨#[]⟩, .int .i64 0, .bool false], .bool false]) w := by kernel_rfl
theorem asFixData (w : World) : Sem.run Try.prog (Instr.typeAssert (.iface 116 (.agg #[])) 101 119 true) w = .ok (.tuple #[.agg #[.string ⟨#[]⟩, .int .i64 0, .bool false], .bool false]) w := by kernel_rfl
theorem asFixNo (w : World) : Sem.run Try.prog (Instr.typeAssert (.iface 117 (.agg #[])) 101 119 true) w = .ok (.tuple #[.agg #[.string ⟨#[]⟩, .int .i64 0, .bool false], .bool false]) w := by kernel_rfl
theorem methVar (w : World) : Sem.run Try.prog (method 261 106 (.agg #[]) "loop.example/g00293/impl.fits") w = .ok (117, .agg #[]) w := by kernel_rfl
theorem methData (w : World) : Sem.run Try.prog (method 261 116 (.agg #[]) "loop.example/g00293/impl.fits") w = .ok (119, .agg #[]) w := by kernel_rfl
theorem methNo (w : World) : Sem.run Try.prog (method 261 117 (.agg #[]) "loop.example/g00293/impl.fits") w = .ok (121, .agg #[]) w := by kernel_rfl
theorem methFix (v : Value) (w : World) : Sem.run Try.prog (method 261 119 v "loop.example/g00293/impl.fits") w = .ok (123, v) w := by kernel_rfl

set_option maxHeartbeats 400000 in
theorem varFits (n : Int) (l : Nat) (w : World) :
    Calls Try.prog 117 #[.agg #[], .int .i64 n, .int .i64 l] w fun e u => e = .returned (.bool (fitsB 7 n l)) ∧ w.grownBy u none := by
  have E : Hid (fitsB 7 n l = _) := fits7
  by_cases h1 : 0 ≤ n
  · by_cases h2 : n ≤ 99999
    · by_cases h3 : l = 0
      · subst h3
        have h2' : n < 100000 := by omega
        go_enter Try.func117, Try.ntmps117
        go_wp2
        go_ret
        exact ⟨by rw [E.out]; simp [h1, h2], World.grownBy_alloc _ _ _⟩
      · have h3' : ¬ (l : Int) = 0 := by omega
        have h2' : n < 100000 := by omega
        go_enter Try.func117, Try.ntmps117
        go_wp2
        go_ret
        exact ⟨by rw [E.out]; simp [h3], World.grownBy_alloc _ _ _⟩
    · have h2' : ¬ n < 100000 := by omega
      go_enter Try.func117, Try.ntmps117
      go_wp2
      go_ret
      exact ⟨by rw [E.out]; simp [h2], World.grownBy_alloc _ _ _⟩
  · go_enter Try.func117, Try.ntmps117
    go_wp2
    go_ret
    exact ⟨by rw [E.out]; simp; omega, World.grownBy_alloc _ _ _⟩

set_option maxHeartbeats 400000 in
theorem dataFits (n : Int) (l : Nat) (w : World) :
    Calls Try.prog 119 #[.agg #[], .int .i64 n, .int .i64 l] w fun e u => e = .returned (.bool (fitsB 6 n l)) ∧ w.grownBy u none := by
  have hl0 : (0 : Int) ≤ l := by omega
  by_cases h1 : 0 ≤ n
  · by_cases h2 : n ≤ 19
    · have h2' : n < 20 := by omega
      by_cases h3 : l ≤ 3
      · have h3' : (l : Int) ≤ 3 := by omega
        have E : Hid (fitsB 6 n l = true) := by show _ = _; rw [fits6 h3]; simp [h1, h2]
        go_enter Try.func119, Try.ntmps119
        go_wp2
        go_ret
        exact ⟨by rw [E.out]; simp [h3'], World.grownBy_alloc _ _ _⟩
      · have h3' : ¬ (l : Int) ≤ 3 := by omega
        have E : Hid (fitsB 6 n l = false) := fits6x h3
        go_enter Try.func119, Try.ntmps119
        go_wp2
        go_ret
        exact ⟨by rw [E.out]; first | rfl | (simp; done) | (simp; omega), World.grownBy_alloc _ _ _⟩
    · have h2' : ¬ n < 20 := by omega
      have E : Hid (fitsB 6 n l = false) := by
        show _ = _
        by_cases h3 : l ≤ 3
        · rw [fits6 h3]; simp [h2]
        · exact fits6x h3
      go_enter Try.func119, Try.ntmps119
      go_wp2
      go_ret
      exact ⟨by rw [E.out]; rfl, World.grownBy_alloc _ _ _⟩
  · have E : Hid (fitsB 6 n l = false) := by
      show _ = _
      by_cases h3 : l ≤ 3
      · rw [fits6 h3]; simp; omega
      · exact fits6x h3
    go_enter Try.func119, Try.ntmps119
    go_wp2
    go_ret
    exact ⟨by rw [E.out]; rfl, World.grownBy_alloc _ _ _⟩

theorem noFits (n : Int) (l : Nat) (w : World) :
    Calls Try.prog 121 #[.agg #[], .int .i64 n, .int .i64 l] w fun e u => e = .returned (.bool (fitsB 8 n l)) ∧ w.grownBy u none := by
  have E : Hid (fitsB 8 n l = false) := fitsx (by omega) (by omega) (by omega) (by omega) (by omega) (by omega) (by omega) (by omega)
  go_enter Try.func121, Try.ntmps121
  go_wp2
  go_ret
  exact ⟨by rw [E.out]; rfl, World.grownBy_alloc _ _ _⟩

set_option maxHeartbeats 400000 in
theorem fixFits (s : ByteArray) (b : Bool) (z n : Int) (l : Nat) (w : World) :
    Calls Try.prog 123 #[.agg #[.string s, .int .i64 z, .bool b], .int .i64 n, .int .i64 l] w fun e u => e = .returned (.bool (decide (n = 0) && decide ((l : Int) = z))) ∧ w.grownBy u none := by
  by_cases h1 : n = 0
  · subst h1
    go_enter Try.func123, Try.ntmps123
    go_wp2
    go_ret
    exact ⟨by simp; rfl, World.grownBy_alloc _ _ _⟩
  · go_enter Try.func123, Try.ntmps123
    go_wp2
    go_ret
    exact ⟨by simp [h1], World.grownBy_alloc _ _ _⟩
end Go.Proofs.Ytmlganaiajhjeaa.By
