/-
  Several texts in one (TFm, TFj). No statement is proved here.
-/
import Derived.Test.YtjchjdcaampghaaDoorTRd
import Derived.Test.YtjchjdcaampghaaDoorTBy
import Derived.Test.YtjchjdcaampghaaDoorMath
namespace Go.Proofs.YtjchjdcaampghaaDoor.By
open Go.RowKit
set_option linter.unusedVariables false

theorem getD_at (pre : List Int) (x : Int) (rest : List Int) : (pre ++ x :: rest).getD pre.length 0 = x := by
  simp [List.getD_eq_getElem?_getD]
theorem num_len5 (n : Int) : (numB n).length ≤ 5 := numB_len n
theorem hd_back {k n : Int} {l : Nat} (h : fitsB k n l = true) (pre rest : List Int) : hd (pre ++ headB k n l ++ rest) (pre.length : Int) = some (k, n, l, (pre.length : Int) + (headB k n l).length) := by
  have hk := fits_range h
  have hlen : (headB k n l).length ≠ 0 := by simp [headB]
  have e0 : (pre ++ headB k n l ++ rest).getD pre.length 0 = k := by
    rw [List.append_assoc]
    exact getD_at pre k _
  unfold hd
  rw [if_neg (by simp only [List.length_append]; omega), Int.toNat_natCast, e0]
  by_cases h6 : k = 6
  · subst h6
    have hl : l ≤ 3 := by
      rcases Nat.lt_or_ge 3 l with hx | hx
      · rw [fits6x (by omega)] at h; cases h
      · exact hx
    have hn : 0 ≤ n ∧ n ≤ 19 := by
      rw [fits6 hl] at h
      simp only [Bool.and_eq_true, decide_eq_true_eq] at h
      omega
    have g1 := back (pre ++ [6]) (numB (l : Int) ++ rest) n (by omega) (by omega) (num_len5 n)
    have g2 := back (pre ++ [6] ++ numB n) rest (l : Int) (by omega) (by omega) (num_len5 _)
    have ez : pre ++ headB 6 n l ++ rest = pre ++ [6] ++ numB n ++ (numB (l : Int) ++ rest) := by simp [headB]
    have ez2 : pre ++ [6] ++ numB n ++ (numB (l : Int) ++ rest) = pre ++ [6] ++ numB n ++ numB (l : Int) ++ rest := by simp
    have el : ((pre ++ [6]).length : Int) = (pre.length : Int) + 1 := by simp
    have el2 : ((pre ++ [6] ++ numB n).length : Int) = (pre.length : Int) + 1 + (numB n).length := by simp; omega
    rw [ez]
    rw [el] at g1
    rw [← ez2, el2] at g2
    unfold hdN
    simp only [g1]
    simp only [g2]
    have eh : (headB 6 n l).length = 1 + (numB n).length + (numB (l : Int)).length := by simp [headB]; omega
    rw [eh]
    simp
    omega
  · by_cases h7 : k = 7
    · subst h7
      rw [fits7] at h
      simp only [Bool.and_eq_true, decide_eq_true_eq] at h
      have g1 := back (pre ++ [7]) rest n (by omega) (by omega) (num_len5 n)
      have ez : pre ++ headB 7 n l ++ rest = pre ++ [7] ++ numB n ++ rest := by simp [headB]
      have el : ((pre ++ [7]).length : Int) = (pre.length : Int) + 1 := by simp
      rw [ez]
      rw [el] at g1
      unfold hdN
      simp only [g1]
      have eh : (headB 7 n l).length = 1 + (numB n).length := by simp [headB]; omega
      rw [eh]
      simp
      omega
    · have eh : (headB k n l).length = 1 := by simp [headB, h6, h7]
      rw [eh]
      unfold fitsB at h
      unfold hdN
      rcases (by omega : k = 0 ∨ k = 1 ∨ k = 2 ∨ k = 3 ∨ k = 4 ∨ k = 5) with rfl | rfl | rfl | rfl | rfl | rfl <;> simp at h <;> simp [h]
/-- A list of trees is read back. -/
theorem rdL_back (f : F) : ∀ (p : Nat), okF f p = true → ∀ (pre rest : List Int), rdL (rdT (pre ++ bytesF f ++ rest) p) f.len (pre.length : Int) = some (f, (pre.length : Int) + (bytesF f).length) := by
  induction f with
  | nil => intro p _ pre rest; simp [rdL, F.len, bytesF]
  | cons k n d r ihd ihr =>
    intro p h pre rest
    simp only [okF, Bool.and_eq_true, decide_eq_true_eq] at h
    obtain ⟨q, rfl⟩ : ∃ q, p = q + 1 := ⟨p - 1, by omega⟩
    have eb : bytesF (.cons k n d r) = headB k n d.len ++ bytesF d ++ bytesF r := by simp [bytesF]
    have el : (F.cons k n d r).len = r.len + 1 := by simp [F.len]
    have ez : pre ++ bytesF (.cons k n d r) ++ rest = pre ++ headB k n d.len ++ (bytesF d ++ (bytesF r ++ rest)) := by rw [eb]; simp
    have ez1 : pre ++ headB k n d.len ++ (bytesF d ++ (bytesF r ++ rest)) = (pre ++ headB k n d.len) ++ bytesF d ++ (bytesF r ++ rest) := by simp
    have ez2 : pre ++ headB k n d.len ++ (bytesF d ++ (bytesF r ++ rest)) = (pre ++ headB k n d.len ++ bytesF d) ++ bytesF r ++ rest := by simp
    have hh := hd_back h.1.1.2 pre (bytesF d ++ (bytesF r ++ rest))
    have h1 := ihd q (by simpa using h.1.2) (pre ++ headB k n d.len) (bytesF r ++ rest)
    have h2 := ihr (q + 1) h.2 (pre ++ headB k n d.len ++ bytesF d) rest
    rw [← ez1] at h1
    rw [← ez2] at h2
    have e1 : ((pre ++ headB k n d.len).length : Int) = (pre.length : Int) + (headB k n d.len).length := by simp
    have e2 : ((pre ++ headB k n d.len ++ bytesF d).length : Int) = (pre.length : Int) + (headB k n d.len).length + (bytesF d).length := by simp; omega
    rw [e1] at h1
    rw [e2] at h2
    rw [ez, el, rdL, rdT, hh]
    simp only [h1, h2]
    rw [eb]
    simp only [List.length_append, Option.some.injEq, Prod.mk.injEq, true_and]
    omega
/-- A type is read back from its bytes. -/
theorem readV_back {k n : Int} {d : F} (h : okT k n d = true) (pre rest : List Int) : readV (pre ++ tyB k n d ++ rest) (pre.length : Int) = (k, n, d, (pre.length : Int) + (tyB k n d).length) := by
  have h' := h
  simp only [okT, Bool.and_eq_true, decide_eq_true_eq] at h'
  have ez : pre ++ tyB k n d ++ rest = pre ++ headB k n d.len ++ (bytesF d ++ rest) := by simp [tyB]
  have ez1 : pre ++ headB k n d.len ++ (bytesF d ++ rest) = (pre ++ headB k n d.len) ++ bytesF d ++ rest := by simp
  have hh := hd_back h'.1.1 pre (bytesF d ++ rest)
  have h1 := rdL_back d 9 h'.1.2 (pre ++ headB k n d.len) rest
  rw [← ez1] at h1
  have e1 : ((pre ++ headB k n d.len).length : Int) = (pre.length : Int) + (headB k n d.len).length := by simp
  rw [e1] at h1
  unfold readV
  rw [ez, show (10 : Nat) = 9 + 1 from rfl, rdT, hh]
  simp only [h1]
  rw [if_pos h]
  simp [tyB]
  omega
end Go.Proofs.YtjchjdcaampghaaDoor.By

namespace Go.Proofs.YtjchjdcaampghaaDoor.By
open Go.RowKit
set_option linter.unusedVariables false

/-- From p to e stand just the bytes bs. -/
def Jst (zs : List Int) (p e : Int) (bs : List Int) : Prop := ∃ P E : Nat, p = P ∧ e = E ∧ P ≤ E ∧ E ≤ zs.length ∧ zs.take E = zs.take P ++ bs
theorem Jst.trans {zs : List Int} {p e f : Int} {bs cs : List Int} (h : Jst zs p e bs) (k : Jst zs e f cs) : Jst zs p f (bs ++ cs) := by
  obtain ⟨P, E, h1, h2, h3, h4, h5⟩ := h
  obtain ⟨E', G, k1, k2, k3, k4, k5⟩ := k
  have : E' = E := by omega
  subst this
  exact ⟨P, G, h1, k2, by omega, k4, by rw [k5, h5, List.append_assoc]⟩
theorem Jst.nil {zs : List Int} {p : Int} (h0 : 0 ≤ p) (h1 : p ≤ zs.length) : Jst zs p p [] := ⟨p.toNat, p.toNat, by omega, by omega, by omega, by omega, by simp⟩
theorem Jst.byte {zs : List Int} {p : Int} (h0 : 0 ≤ p) (h1 : p < zs.length) : Jst zs p (p + 1) [zs.getD p.toNat 0] := by
  refine ⟨p.toNat, p.toNat + 1, by omega, by omega, by omega, by omega, ?_⟩
  have hlt : p.toNat < zs.length := by omega
  rw [List.take_add_one, List.getD_eq_getElem?_getD, List.getElem?_eq_getElem hlt]
  rfl
theorem Jst.num {zs : List Int} (hz : Byt zs) {p : Int} (he : 0 ≤ (getNum zs p).2) : Jst zs p (getNum zs p).2 (numB (getNum zs p).1) := by
  obtain ⟨P, E, a, b, c, d, _, _, g⟩ := just zs hz p (getNum zs p).1 (getNum zs p).2 rfl he
  exact ⟨P, E, a, b, c, d, g⟩
theorem Jst.ge {zs : List Int} {p e : Int} {bs : List Int} (h : Jst zs p e bs) : 0 ≤ p ∧ p ≤ e ∧ e ≤ zs.length := by
  obtain ⟨P, E, h1, h2, h3, h4, h5⟩ := h
  omega
/-- The bytes between. -/
theorem Jst.cut {zs : List Int} {p e : Int} {bs : List Int} (h : Jst zs p e bs) : (zs.drop p.toNat).take (e.toNat - p.toNat) = bs := by
  obtain ⟨P, E, rfl, rfl, h3, h4, h5⟩ := h
  simp only [Int.toNat_natCast]
  rw [← List.drop_take, h5, List.drop_append_of_le_length (by simp; omega)]
  simp
theorem hd_just {zs : List Int} (hz : Byt zs) {p : Int} {x : Int × Int × Nat × Int} (h : hd zs p = some x) : Jst zs p x.2.2.2 (headB x.1 x.2.1 x.2.2.1) := by
  unfold hd at h
  split at h
  · cases h
  · rename_i hp
    have hb := Jst.byte (zs := zs) (p := p) (by omega) (by omega)
    generalize zs.getD p.toNat 0 = k at *
    unfold hdN at h
    split at h
    · rename_i hk
      cases h
      have : headB k 0 0 = [k] := by unfold headB; rw [if_neg (by omega), if_neg (by omega)]
      simp only [this]; exact hb
    · split at h
      · rename_i hk
        cases h
        have : headB k 0 2 = [k] := by unfold headB; rw [if_neg (by omega), if_neg (by omega)]
        simp only [this]; exact hb
      · split at h
        · rename_i hk
          cases h
          subst hk
          have : headB 5 0 1 = [5] := by unfold headB; rw [if_neg (by omega), if_neg (by omega)]
          simp only [this]; exact hb
        · split at h
          · rename_i hk
            split at h
            · cases h
            · rename_i hn
              cases h
              subst hk
              have e : headB 7 (getNum zs (p + 1)).1 0 = [7] ++ numB (getNum zs (p + 1)).1 := by unfold headB; rw [if_neg (by omega), if_pos rfl]; rfl
              simp only [e]; exact hb.trans (Jst.num hz (by omega))
          · split at h
            · rename_i hk
              split at h
              · cases h
              · rename_i hn
                split at h
                · cases h
                · rename_i hm
                  cases h
                  subst hk
                  have j1 := Jst.num hz (p := p + 1) (by omega)
                  have j2 := Jst.num hz (p := (getNum zs (p + 1)).2) (by omega)
                  obtain ⟨_, _, _, _, _, _, g0, _, _⟩ := just zs hz (getNum zs (p + 1)).2 (getNum zs (getNum zs (p + 1)).2).1 (getNum zs (getNum zs (p + 1)).2).2 rfl (by omega)
                  have e : headB 6 (getNum zs (p + 1)).1 (getNum zs (getNum zs (p + 1)).2).1.toNat = [6] ++ numB (getNum zs (p + 1)).1 ++ numB (getNum zs (getNum zs (p + 1)).2).1 := by
                    unfold headB
                    rw [if_pos rfl, Int.toNat_of_nonneg g0]
                    simp
                  simp only [e]; exact (hb.trans j1).trans j2
            · cases h
theorem rdL_just {zs : List Int} {g : Int → Option (Int × Int × F × Int)} (hg : ∀ p x, g p = some x → Jst zs p x.2.2.2 (tyB x.1 x.2.1 x.2.2.1)) : ∀ {c : Nat} {p : Int} {y : F × Int}, 0 ≤ p → p ≤ zs.length → rdL g c p = some y → Jst zs p y.2 (bytesF y.1) := by
  intro c
  induction c with
  | zero => intro p y h0 h1 h; simp only [rdL, Option.some.injEq] at h; subst h; exact Jst.nil h0 h1
  | succ c ih =>
    intro p y h0 h1 h
    rw [rdL] at h
    cases hx : g p with
    | none => rw [hx] at h; cases h
    | some x =>
      rw [hx] at h
      have j := hg p x hx
      cases hl : rdL g c x.2.2.2 with
      | none => simp only [hl] at h; cases h
      | some z =>
        simp only [hl, Option.some.injEq] at h
        subst h
        have k := ih (by have := j.ge; omega) j.ge.2.2 hl
        have := j.trans k
        simpa [bytesF, tyB] using this
theorem rdT_just {zs : List Int} (hz : Byt zs) : ∀ (d : Nat) (p : Int) (x : Int × Int × F × Int), rdT zs d p = some x → Jst zs p x.2.2.2 (tyB x.1 x.2.1 x.2.2.1) := by
  intro d
  induction d with
  | zero => intro p x h; rw [rdT] at h; cases h
  | succ d ih =>
    intro p x h
    rw [rdT] at h
    cases hh : hd zs p with
    | none => rw [hh] at h; cases h
    | some y =>
      rw [hh] at h
      have j := hd_just hz hh
      cases hl : rdL (rdT zs d) y.2.2.1 y.2.2.2 with
      | none => simp only [hl] at h; cases h
      | some z =>
        simp only [hl, Option.some.injEq] at h
        subst h
        have k := rdL_just ih (by have := j.ge; omega) j.ge.2.2 hl
        have := j.trans k
        rw [← rdL_len hl] at this
        exact this
/-- What is read is a type, and just its bytes stand there. -/
theorem readV_just {zs : List Int} (hz : Byt zs) {p : Int} (h : 0 ≤ (readV zs p).2.2.2) : okT (readV zs p).1 (readV zs p).2.1 (readV zs p).2.2.1 = true ∧ Jst zs p (readV zs p).2.2.2 (tyB (readV zs p).1 (readV zs p).2.1 (readV zs p).2.2.1) := by
  unfold readV at h ⊢
  cases hr : rdT zs 10 p with
  | none => simp only [hr] at h; omega
  | some x =>
    simp only [hr] at h ⊢
    by_cases ho : okT x.1 x.2.1 x.2.2.1 = true
    · simp only [ho, if_true]; exact ⟨trivial, rdT_just hz 10 p x hr⟩
    · simp only [ho] at h; simp at h
end Go.Proofs.YtjchjdcaampghaaDoor.By
