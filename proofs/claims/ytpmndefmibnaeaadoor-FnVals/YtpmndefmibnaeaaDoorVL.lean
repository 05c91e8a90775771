/-
  How a value is shown: both ways to write it, cut off, are one. Lists alone. No statement is proved here.
-/
import Derived.Test.YtpmndefmibnaeaaDoorVG
import Derived.Test.YtpmndefmibnaeaaDoorVB
namespace Go.Proofs.YtpmndefmibnaeaaDoor.By
open Go.RowKit
set_option linter.unusedVariables false
set_option linter.unusedSimpArgs false

def V.nth : V → Nat → RVal
  | .nil, _ => ⟨0, 0, [], .nil⟩
  | .cons k n t d _, 0 => ⟨k, n, t, d⟩
  | .cons _ _ _ _ r, i + 1 => r.nth i
/-- Every number is an int of 64 bits. -/
def okN : V → Prop
  | .nil => True
  | .cons _ n _ d r => (-9223372036854775808 ≤ n ∧ n ≤ 9223372036854775807) ∧ okN d ∧ okN r
def okX (x : RVal) : Prop := (-9223372036854775808 ≤ x.n ∧ x.n ≤ 9223372036854775807) ∧ okN x.list
/-- What its parts are. -/
def prt (cells : V) (x : RVal) : V := if x.k = 5 then (if 0 ≤ x.n ∧ x.n < (cells.len : Int) then V.cn (cells.nth x.n.toNat) .nil else .nil) else x.list
def leafQ (x : RVal) : Bool := decide (x.k = 0) || decide (x.k = 1) || decide (x.k = 2) || decide (x.k = 4)
def leafV (x : RVal) : List Int := if x.k = 0 then [40, 41] else if x.k = 1 then intB x.n else if x.k = 4 then [102, 110] else [34] ++ x.text ++ [34]
def headV (x : RVal) : List Int := if x.k = 5 then [114, 101, 102] else if x.k = 6 then [35] ++ intB x.n else []
def joinV (f : RVal → List Int) : Bool → V → List Int
  | _, .nil => []
  | first, .cons k n t d r => (if first then [] else [44, 32]) ++ f ⟨k, n, t, d⟩ ++ joinV f false r
/-- All that is shown. -/
def showV (cells : V) : Nat → RVal → List Int
  | 0, x => if leafQ x = true then leafV x else [46, 46]
  | d + 1, x => if leafQ x = true then leafV x else headV x ++ (if (prt cells x).len = 0 then [] else [40] ++ joinV (showV cells d) true (prt cells x) ++ [41])
def cut (l : List Int) : List Int := l.take 30000
theorem cut_app (a b : List Int) : cut (cut a ++ b) = cut (a ++ b) := by
  unfold cut
  by_cases h : a.length ≤ 30000
  · rw [List.take_of_length_le h]
  · have h1 : 30000 ≤ (List.take 30000 a).length := by simp; omega
    have h2 : 30000 ≤ a.length := by omega
    rw [List.take_append_of_le_length h1, List.take_append_of_le_length h2, List.take_take, Nat.min_self]
theorem cut_long {a : List Int} (h : 30000 ≤ a.length) (b : List Int) : cut (a ++ b) = cut a := by
  unfold cut
  rw [List.take_append_of_le_length h]
theorem cut_same {a b : List Int} (h : cut a = cut b) (c : List Int) : cut (a ++ c) = cut (b ++ c) := by rw [← cut_app a, h, cut_app]
theorem cut_reach {a b : List Int} (h : cut a = cut b) (hl : 30000 ≤ a.length) : 30000 ≤ b.length := by
  have := congrArg List.length h
  unfold cut at this
  simp only [List.length_take] at this
  omega

/-- The document's way. -/
def loopS (f : List Int → RVal → List Int) : List Int → Bool → V → List Int
  | b, _, .nil => b ++ [41]
  | b, first, .cons k n t d r => if 30000 < (f (if first then b else b ++ [44, 32]) ⟨k, n, t, d⟩).length then f (if first then b else b ++ [44, 32]) ⟨k, n, t, d⟩ else loopS f (f (if first then b else b ++ [44, 32]) ⟨k, n, t, d⟩) false r
theorem loopS_cons (f : List Int → RVal → List Int) (b : List Int) (first : Bool) (k n : Int) (t : List Int) (d r : V) : loopS f b first (.cons k n t d r) = if 30000 < (f (if first then b else b ++ [44, 32]) ⟨k, n, t, d⟩).length then f (if first then b else b ++ [44, 32]) ⟨k, n, t, d⟩ else loopS f (f (if first then b else b ++ [44, 32]) ⟨k, n, t, d⟩) false r := rfl
def spV (cells : V) : Nat → List Int → RVal → List Int
  | 0, b, x => b ++ (if leafQ x = true then leafV x else [46, 46])
  | d + 1, b, x => if leafQ x = true then b ++ leafV x else if (prt cells x).len = 0 then b ++ headV x else loopS (spV cells d) (b ++ headV x ++ [40]) true (prt cells x)
theorem loopS_cut {f : List Int → RVal → List Int} {g : RVal → List Int} (hf : ∀ b x, cut (f b x) = cut (b ++ g x)) : ∀ (p : V) (b : List Int) (first : Bool), cut (loopS f b first p) = cut (b ++ (joinV g first p ++ [41])) := by
  intro p
  induction p with
  | nil => intro b first; simp [loopS, joinV]
  | cons k n t d r _ ih =>
    intro b first
    have e := hf (if first then b else b ++ [44, 32]) ⟨k, n, t, d⟩
    have e2 : b ++ (joinV g first (.cons k n t d r) ++ [41]) = ((if first then b else b ++ [44, 32]) ++ g ⟨k, n, t, d⟩) ++ (joinV g false r ++ [41]) := by
      cases first <;> simp [joinV, List.append_assoc]
    rw [e2, loopS_cons]
    generalize (if first then b else b ++ [44, 32]) = b0 at *
    split
    · rename_i h
      rw [cut_long (cut_reach e (by omega)), e]
    · rw [ih]; exact cut_same e _
theorem spV_cut (cells : V) : ∀ (d : Nat) (b : List Int) (x : RVal), cut (spV cells d b x) = cut (b ++ showV cells d x) := by
  intro d
  induction d with
  | zero => intro b x; rfl
  | succ d ih =>
    intro b x
    unfold spV showV
    split
    · rfl
    · split
      · simp
      · rw [loopS_cut ih]; simp [List.append_assoc]

/-- The program's way. -/
def leafI (x : RVal) : List Int := if x.k = 0 then [40, 41] else if x.k = 1 then intB x.n else if x.k = 4 then [102, 110] else [34] ++ x.text.take 30000 ++ [34]
def loopI (f : List Int → RVal → List Int) : List Int → Bool → V → List Int
  | s, _, .nil => s
  | s, first, .cons k n t d r => if s.length < 30000 then loopI f (f (s ++ (if first then [40] else [44, 32])) ⟨k, n, t, d⟩) false r else s
theorem loopI_cons (f : List Int → RVal → List Int) (s : List Int) (first : Bool) (k n : Int) (t : List Int) (d r : V) : loopI f s first (.cons k n t d r) = if s.length < 30000 then loopI f (f (s ++ (if first then [40] else [44, 32])) ⟨k, n, t, d⟩) false r else s := rfl
def ipV (cells : V) : Nat → List Int → RVal → List Int
  | 0, s, x => s ++ (if leafQ x = true then leafI x else [46, 46])
  | d + 1, s, x => if leafQ x = true then s ++ leafI x else loopI (ipV cells d) (s ++ headV x) true (prt cells x) ++ (if (prt cells x).len = 0 then [] else [41])
def joinI (f : RVal → List Int) : Bool → V → List Int
  | _, .nil => []
  | first, .cons k n t d r => (if first then [40] else [44, 32]) ++ f ⟨k, n, t, d⟩ ++ joinI f false r
theorem joinI_false (f : RVal → List Int) (p : V) : joinI f false p = joinV f false p := by
  induction p with
  | nil => rfl
  | cons k n t d r _ ih => simp [joinI, joinV, ih]
theorem joinI_true (f : RVal → List Int) (p : V) (h : p.len ≠ 0) : joinI f true p = [40] ++ joinV f true p := by
  cases p with
  | nil => simp [V.len] at h
  | cons k n t d r => simp [joinI, joinV, joinI_false]
theorem leafI_cut (s : List Int) (x : RVal) : cut (s ++ leafI x) = cut (s ++ leafV x) := by
  unfold leafI leafV
  split
  · rfl
  split
  · rfl
  split
  · rfl
  by_cases h : x.text.length ≤ 30000
  · rw [List.take_of_length_le h]
  · have h1 : s ++ ([34] ++ x.text.take 30000 ++ [34]) = (s ++ ([34] ++ x.text.take 30000)) ++ [34] := by simp [List.append_assoc]
    have h2 : s ++ ([34] ++ x.text ++ [34]) = (s ++ ([34] ++ x.text.take 30000)) ++ (x.text.drop 30000 ++ [34]) := by
      have h3 : x.text = x.text.take 30000 ++ x.text.drop 30000 := (List.take_append_drop 30000 x.text).symm
      calc s ++ ([34] ++ x.text ++ [34]) = s ++ ([34] ++ (x.text.take 30000 ++ x.text.drop 30000) ++ [34]) := by rw [← h3]
        _ = _ := by simp only [List.append_assoc]
    have h4 : 30000 ≤ (s ++ ([34] ++ x.text.take 30000)).length := by simp only [List.length_append, List.length_take, List.length_singleton]; omega
    rw [h1, h2, cut_long h4, cut_long h4]
theorem loopI_cut {f : List Int → RVal → List Int} {g : RVal → List Int} (hf : ∀ b x, cut (f b x) = cut (b ++ g x)) : ∀ (p : V) (s : List Int) (first : Bool), cut (loopI f s first p) = cut (s ++ joinI g first p) := by
  intro p
  induction p with
  | nil => intro s first; simp [loopI, joinI]
  | cons k n t d r _ ih =>
    intro s first
    rw [loopI_cons]
    split
    · rw [ih, cut_same (hf _ _)]
      simp [joinI, List.append_assoc]
    · rename_i h
      rw [cut_long (by omega)]
theorem ipV_cut (cells : V) : ∀ (d : Nat) (s : List Int) (x : RVal), cut (ipV cells d s x) = cut (s ++ showV cells d x) := by
  intro d
  induction d with
  | zero =>
    intro s x
    unfold ipV showV
    split
    · exact leafI_cut s x
    · rfl
  | succ d ih =>
    intro s x
    unfold ipV showV
    split
    · exact leafI_cut s x
    · rw [cut_same (loopI_cut ih _ _ _)]
      by_cases h : (prt cells x).len = 0
      · rw [if_pos h, if_pos h, V.nil_of_len h]; simp [joinI]
      · rw [if_neg h, if_neg h, joinI_true _ _ h]; simp [List.append_assoc]
/-- What is told: the two are one. -/
def shownV (cells : V) (x : RVal) : List Int := cut (showV cells 8 x)
theorem spV_shown (cells : V) (x : RVal) : cut (spV cells 8 [] x) = shownV cells x := by rw [spV_cut]; rfl
theorem ipV_shown (cells : V) (x : RVal) : cut (ipV cells 8 [] x) = shownV cells x := by rw [ipV_cut]; rfl
theorem shownV_len (cells : V) (x : RVal) : (shownV cells x).length ≤ 30000 := by unfold shownV cut; simp; omega

/-- How long they are. -/
theorem V.nth_size : ∀ (f : V) (i : Nat), szVal (f.nth i) ≤ f.size := by
  intro f
  induction f with
  | nil => intro i; cases i <;> simp [V.nth, szVal, V.size]
  | cons k n t d r _ ih =>
    intro i
    cases i with
    | zero => simp only [V.nth, szVal, V.size]; omega
    | succ i => have := ih i; simp only [V.nth, V.size]; omega
theorem V.nth_ok : ∀ (f : V) (i : Nat), okN f → okX (f.nth i) := by
  intro f
  induction f with
  | nil => intro i _; cases i <;> exact ⟨⟨by simp [V.nth], by simp [V.nth]⟩, trivial⟩
  | cons k n t d r _ ih =>
    intro i h
    cases i with
    | zero => exact ⟨h.1, h.2.1⟩
    | succ i => exact ih i h.2.2
theorem prt_size (cells : V) (x : RVal) (hc : cells.size ≤ 1048576) (hx : szVal x ≤ 1048576) : (prt cells x).size ≤ 1048577 := by
  unfold prt
  split
  · split
    · have := V.nth_size cells x.n.toNat; rw [V.size_cn]; simp only [V.size]; omega
    · simp [V.size]
  · unfold szVal at hx; omega
theorem prt_ok (cells : V) (x : RVal) (hc : okN cells) (hx : okX x) : okN (prt cells x) := by
  unfold prt
  split
  · split
    · have := V.nth_ok cells x.n.toNat hc; exact ⟨this.1, this.2, trivial⟩
    · trivial
  · exact hx.2
/-- Each one of a list is no greater than a text may be. -/
def okP : V → Prop
  | .nil => True
  | .cons k n t d r => szVal ⟨k, n, t, d⟩ ≤ 1048576 ∧ okX ⟨k, n, t, d⟩ ∧ okP r
theorem okP_of : ∀ (f : V), f.size ≤ 1048577 → okN f → okP f := by
  intro f
  induction f with
  | nil => intros; trivial
  | cons k n t d r _ ih =>
    intro h1 h2
    simp only [V.size] at h1
    exact ⟨by simp only [szVal]; omega, ⟨h2.1, h2.2.1⟩, ih (by omega) h2.2.2⟩
theorem prt_okP (cells : V) (x : RVal) (hc : cells.size ≤ 1048576) (hx : szVal x ≤ 1048576) (hc2 : okN cells) (hx2 : okX x) : okP (prt cells x) := okP_of _ (prt_size cells x hc hx) (prt_ok cells x hc2 hx2)
theorem leafV_len {x : RVal} (hx : szVal x ≤ 1048576) (h2 : okX x) : (leafV x).length ≤ 1048578 := by
  unfold leafV
  have := intB_len20 h2.1.1 h2.1.2
  unfold szVal at hx
  split
  · simp
  split
  · omega
  split
  · simp
  simp; omega
theorem leafI_len {x : RVal} (h2 : okX x) : (leafI x).length ≤ 30002 := by
  unfold leafI
  have := intB_len20 h2.1.1 h2.1.2
  split
  · simp
  split
  · omega
  split
  · simp
  simp; omega
theorem headV_len {x : RVal} (h2 : okX x) : (headV x).length ≤ 21 := by
  unfold headV
  have := intB_len20 h2.1.1 h2.1.2
  split
  · simp
  split
  · simp; omega
  · simp
theorem loopS_len {f : List Int → RVal → List Int} {m : Nat} (hm : m ≤ 168) (hf : ∀ b x, szVal x ≤ 1048576 → okX x → b.length + m ≤ 30200 → (f b x).length ≤ 1079000) : ∀ (p : V) (b : List Int) (first : Bool), okP p → b.length + m ≤ 30200 → (first = true ∨ b.length ≤ 30000) → (loopS f b first p).length ≤ 1079000 := by
  intro p
  induction p with
  | nil => intro b first _ h _; simp [loopS]; omega
  | cons k n t d r _ ih =>
    intro b first hp h h0
    have hb : (if first then b else b ++ [44, 32]).length + m ≤ 30200 := by
      cases first with
      | true => exact h
      | false => rcases h0 with h0 | h0
                 · cases h0
                 · simp; omega
    have h1 := hf _ _ hp.1 hp.2.1 hb
    rw [loopS_cons]
    generalize (if first then b else b ++ [44, 32]) = b0 at *
    split
    · exact h1
    · exact ih _ _ hp.2.2 (by omega) (.inr (by omega))
theorem spV_len (cells : V) (hc : cells.size ≤ 1048576) (hc2 : okN cells) : ∀ (d : Nat) (b : List Int) (x : RVal), d ≤ 8 → szVal x ≤ 1048576 → okX x → b.length + 24 * d ≤ 30200 → (spV cells d b x).length ≤ 1079000 := by
  intro d
  induction d with
  | zero =>
    intro b x _ hx h2 h
    unfold spV
    have := leafV_len hx h2
    split
    · simp; omega
    · simp; omega
  | succ d ih =>
    intro b x hd hx h2 h
    unfold spV
    have := leafV_len hx h2
    have h3 := headV_len h2
    split
    · simp; omega
    · split
      · simp; omega
      · exact loopS_len (m := 24 * d) (by omega) (fun b x k1 k2 k3 => ih b x (by omega) k1 k2 k3) _ _ _ (prt_okP cells x hc hx hc2 h2) (by simp; omega) (.inl rfl)
theorem loopI_len {f : List Int → RVal → List Int} {m M : Nat} (hM : 60000 ≤ M) (hf : ∀ b x, szVal x ≤ 1048576 → okX x → b.length + m ≤ 30200 → (f b x).length ≤ M) (hm : m ≤ 168) : ∀ (p : V) (s : List Int) (first : Bool), okP p → s.length ≤ M → (loopI f s first p).length ≤ M := by
  intro p
  induction p with
  | nil => intro s first _ h; exact h
  | cons k n t d r _ ih =>
    intro s first hp h
    rw [loopI_cons]
    split
    · rename_i h1
      refine ih _ _ hp.2.2 (hf _ _ hp.1 hp.2.1 ?_)
      cases first <;> simp <;> omega
    · exact h
theorem ipV_len (cells : V) (hc : cells.size ≤ 1048576) (hc2 : okN cells) : ∀ (d : Nat) (s : List Int) (x : RVal), d ≤ 8 → szVal x ≤ 1048576 → okX x → s.length + 24 * d ≤ 30200 → (ipV cells d s x).length ≤ 60300 + d := by
  intro d
  induction d with
  | zero =>
    intro s x _ hx h2 h
    unfold ipV
    have := leafI_len h2
    split
    · simp; omega
    · simp; omega
  | succ d ih =>
    intro s x hd hx h2 h
    unfold ipV
    have := leafI_len h2
    have h3 := headV_len h2
    split
    · simp; omega
    · have h4 := loopI_len (m := 24 * d) (M := 60300 + d) (by omega) (fun b x k0 k1 k2 => ih b x (by omega) k0 k1 k2) (by omega) (prt cells x) (s ++ headV x) true (prt_okP cells x hc hx hc2 h2) (by simp; omega)
      rw [List.length_append]
      split <;> simp <;> omega
end Go.Proofs.YtpmndefmibnaeaaDoor.By
