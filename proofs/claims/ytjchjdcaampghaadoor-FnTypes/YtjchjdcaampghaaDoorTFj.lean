/-
  What is read is just its bytes: lists. No statement is proved here.
-/
import Derived.Test.YtjchjdcaampghaaDoorTFm
namespace Go.Proofs.YtjchjdcaampghaaDoor.By
open Go.RowKit
set_option linter.unusedVariables false

/-- From p to e stand just the bytes bs. -/
def Jst (zs : List Int) (p e : Int) (bs : List Int) : Prop := ∃ P E : Nat, p = P ∧ e = E ∧ P ≤ E ∧ E ≤ zs.length ∧ zs.take E = zs.take P ++ bs
theorem Jst.trans {zs : List Int} {p e f : Int} {bs cs : List Int} (h : Jst zs p e bs) (k : Jst zs e f cs) : Jst zs p f (bs ++ cs) := by
  obtain ⟨P, E, h1, h2, h3, h4, h5⟩ := h
  obtain ⟨E', G, k1, k2, k3, k4, k5⟩ := k
  have : E' = E := by omega
  subst this
  exact ⟨P, G, h1, k2, by omega, k4, by rw [k5, h5, List.append_assoc]⟩
theorem Jst.nil {zs : List Int} {p : Int} (h0 : 0 ≤ p) (h1 : p ≤ zs.length) : Jst zs p p [] := ⟨p.toNat, p.toNat, by omega, by omega, by omega, by omega, by simp⟩
theorem Jst.byte {zs : List Int} {p : Int} (h0 : 0 ≤ p) (h1 : p < zs.length) : Jst zs p (p + 1) [zs.getD p.toNat 0] := by
  refine ⟨p.toNat, p.toNat + 1, by omega, by omega, by omega, by omega, ?_⟩
  have hlt : p.toNat < zs.length := by omega
  rw [List.take_add_one, List.getD_eq_getElem?_getD, List.getElem?_eq_getElem hlt]
  rfl
theorem Jst.num {zs : List Int} (hz : Byt zs) {p : Int} (he : 0 ≤ (getNum zs p).2) : Jst zs p (getNum zs p).2 (numB (getNum zs p).1) := by
  obtain ⟨P, E, a, b, c, d, _, _, g⟩ := just zs hz p (getNum zs p).1 (getNum zs p).2 rfl he
  exact ⟨P, E, a, b, c, d, g⟩
theorem Jst.ge {zs : List Int} {p e : Int} {bs : List Int} (h : Jst zs p e bs) : 0 ≤ p ∧ p ≤ e ∧ e ≤ zs.length := by
  obtain ⟨P, E, h1, h2, h3, h4, h5⟩ := h
  omega
/-- The bytes between. -/
theorem Jst.cut {zs : List Int} {p e : Int} {bs : List Int} (h : Jst zs p e bs) : (zs.drop p.toNat).take (e.toNat - p.toNat) = bs := by
  obtain ⟨P, E, rfl, rfl, h3, h4, h5⟩ := h
  simp only [Int.toNat_natCast]
  rw [← List.drop_take, h5, List.drop_append_of_le_length (by simp; omega)]
  simp
theorem hd_just {zs : List Int} (hz : Byt zs) {p : Int} {x : Int × Int × Nat × Int} (h : hd zs p = some x) : Jst zs p x.2.2.2 (headB x.1 x.2.1 x.2.2.1) := by
  unfold hd at h
  split at h
  · cases h
  · rename_i hp
    have hb := Jst.byte (zs := zs) (p := p) (by omega) (by omega)
    generalize zs.getD p.toNat 0 = k at *
    unfold hdN at h
    split at h
    · rename_i hk
      cases h
      have : headB k 0 0 = [k] := by unfold headB; rw [if_neg (by omega), if_neg (by omega)]
      simp only [this]; exact hb
    · split at h
      · rename_i hk
        cases h
        have : headB k 0 2 = [k] := by unfold headB; rw [if_neg (by omega), if_neg (by omega)]
        simp only [this]; exact hb
      · split at h
        · rename_i hk
          cases h
          subst hk
          have : headB 5 0 1 = [5] := by unfold headB; rw [if_neg (by omega), if_neg (by omega)]
          simp only [this]; exact hb
        · split at h
          · rename_i hk
            split at h
            · cases h
            · rename_i hn
              cases h
              subst hk
              have e : headB 7 (getNum zs (p + 1)).1 0 = [7] ++ numB (getNum zs (p + 1)).1 := by unfold headB; rw [if_neg (by omega), if_pos rfl]; rfl
              simp only [e]; exact hb.trans (Jst.num hz (by omega))
          · split at h
            · rename_i hk
              split at h
              · cases h
              · rename_i hn
                split at h
                · cases h
                · rename_i hm
                  cases h
                  subst hk
                  have j1 := Jst.num hz (p := p + 1) (by omega)
                  have j2 := Jst.num hz (p := (getNum zs (p + 1)).2) (by omega)
                  obtain ⟨_, _, _, _, _, _, g0, _, _⟩ := just zs hz (getNum zs (p + 1)).2 (getNum zs (getNum zs (p + 1)).2).1 (getNum zs (getNum zs (p + 1)).2).2 rfl (by omega)
                  have e : headB 6 (getNum zs (p + 1)).1 (getNum zs (getNum zs (p + 1)).2).1.toNat = [6] ++ numB (getNum zs (p + 1)).1 ++ numB (getNum zs (getNum zs (p + 1)).2).1 := by
                    unfold headB
                    rw [if_pos rfl, Int.toNat_of_nonneg g0]
                    simp
                  simp only [e]; exact (hb.trans j1).trans j2
            · cases h
theorem rdL_just {zs : List Int} {g : Int → Option (Int × Int × F × Int)} (hg : ∀ p x, g p = some x → Jst zs p x.2.2.2 (tyB x.1 x.2.1 x.2.2.1)) : ∀ {c : Nat} {p : Int} {y : F × Int}, 0 ≤ p → p ≤ zs.length → rdL g c p = some y → Jst zs p y.2 (bytesF y.1) := by
  intro c
  induction c with
  | zero => intro p y h0 h1 h; simp only [rdL, Option.some.injEq] at h; subst h; exact Jst.nil h0 h1
  | succ c ih =>
    intro p y h0 h1 h
    rw [rdL] at h
    cases hx : g p with
    | none => rw [hx] at h; cases h
    | some x =>
      rw [hx] at h
      have j := hg p x hx
      cases hl : rdL g c x.2.2.2 with
      | none => simp only [hl] at h; cases h
      | some z =>
        simp only [hl, Option.some.injEq] at h
        subst h
        have k := ih (by have := j.ge; omega) j.ge.2.2 hl
        have := j.trans k
        simpa [bytesF, tyB] using this
theorem rdT_just {zs : List Int} (hz : Byt zs) : ∀ (d : Nat) (p : Int) (x : Int × Int × F × Int), rdT zs d p = some x → Jst zs p x.2.2.2 (tyB x.1 x.2.1 x.2.2.1) := by
  intro d
  induction d with
  | zero => intro p x h; rw [rdT] at h; cases h
  | succ d ih =>
    intro p x h
    rw [rdT] at h
    cases hh : hd zs p with
    | none => rw [hh] at h; cases h
    | some y =>
      rw [hh] at h
      have j := hd_just hz hh
      cases hl : rdL (rdT zs d) y.2.2.1 y.2.2.2 with
      | none => simp only [hl] at h; cases h
      | some z =>
        simp only [hl, Option.some.injEq] at h
        subst h
        have k := rdL_just ih (by have := j.ge; omega) j.ge.2.2 hl
        have := j.trans k
        rw [← rdL_len hl] at this
        exact this
/-- What is read is a type, and just its bytes stand there. -/
theorem readV_just {zs : List Int} (hz : Byt zs) {p : Int} (h : 0 ≤ (readV zs p).2.2.2) : okT (readV zs p).1 (readV zs p).2.1 (readV zs p).2.2.1 = true ∧ Jst zs p (readV zs p).2.2.2 (tyB (readV zs p).1 (readV zs p).2.1 (readV zs p).2.2.1) := by
  unfold readV at h ⊢
  cases hr : rdT zs 10 p with
  | none => simp only [hr] at h; omega
  | some x =>
    simp only [hr] at h ⊢
    by_cases ho : okT x.1 x.2.1 x.2.2.1 = true
    · simp only [ho, if_true]; exact ⟨trivial, rdT_just hz 10 p x hr⟩
    · simp only [ho] at h; simp at h
end Go.Proofs.YtjchjdcaampghaaDoor.By
