/-
  What reading a text from bytes comes to, as a plain function, and that both GetText (the specification's and the landed one) answer it. No statement is proved here.
-/
import Derived.Test.YtjlehmpdfpefdagGetI
import Derived.Test.YtjlehmpdfpefdagPutS
namespace Go.Proofs.Ytjlehmpdfpefdag.By
open Go.RowKit
set_option linter.unusedVariables false

theorem getAt_bounds (zs : List Int) (hz : Byt zs) (p : Nat) : ∀ (f i : Nat) (n : Int), 0 ≤ n → (getAt zs p f i n = (0, -1)) ∨ (0 ≤ (getAt zs p f i n).1 ∧ 0 ≤ (getAt zs p f i n).2 ∧ (getAt zs p f i n).2 ≤ zs.length) := by
  intro f
  induction f with
  | zero => intro i n _; exact .inl rfl
  | succ f ih =>
    intro i n hn
    have hb := byt_get hz (p + i)
    rw [← List.getD_eq_getElem?_getD] at hb
    have hp : 0 ≤ zs.getD (p + i) 0 % 128 * 128 ^ i := Int.mul_nonneg (by omega) (Int.le_of_lt (Int.pow_pos (by decide)))
    rw [getAt]
    by_cases h1 : p + i < zs.length
    · rw [if_pos h1]
      by_cases h2 : 128 ≤ zs.getD (p + i) 0
      · rw [if_pos h2]; exact ih _ _ (by omega)
      · rw [if_neg h2]
        by_cases h3 : (zs.getD (p + i) 0 = 0 ∧ 0 < i) ∨ 2147483647 < n + zs.getD (p + i) 0 % 128 * 128 ^ i
        · rw [if_pos h3]; exact .inl rfl
        · rw [if_neg h3]; right; refine ⟨by show 0 ≤ n + _; omega, by show 0 ≤ (p : Int) + i + 1; omega, by show (p : Int) + i + 1 ≤ _; omega⟩
    · rw [if_neg h1]; exact .inl rfl
theorem getNum_bounds (zs : List Int) (hz : Byt zs) (p : Int) : (getNum zs p = (0, -1)) ∨ (0 ≤ (getNum zs p).1 ∧ 0 ≤ (getNum zs p).2 ∧ (getNum zs p).2 ≤ zs.length) := by
  unfold getNum; split
  · exact .inl rfl
  · exact getAt_bounds zs hz _ 5 0 0 (by omega)

/-- What a text read from p on is: none (-1), or the bytes and the place behind them. -/
def getText (zs : List Int) (p : Int) : Option (List Int × Int) :=
  if (getNum zs p).2 < 0 ∨ 40 < (getNum zs p).1 ∨ (zs.length : Int) - (getNum zs p).2 < (getNum zs p).1 then none
  else some ((zs.drop (getNum zs p).2.toNat).take (getNum zs p).1.toNat, (getNum zs p).2 + (getNum zs p).1)

theorem cut_len (zs : List Int) (q k : Nat) (h : q + k ≤ zs.length) : ((zs.drop q).take k).length = k := by simp; omega
theorem cut_get (zs : List Int) (q k i : Nat) (h : i < k) : ((zs.drop q).take k).getD i 0 = zs.getD (q + i) 0 := by
  rw [List.getD_eq_getElem?_getD, List.getElem?_take_of_lt h, List.getElem?_drop, ← List.getD_eq_getElem?_getD]
theorem cut_reads {w : World} {g cap : Nat} {zs : List Int} (h : Row w g cap zs) (q k : Nat) (hq : q + k ≤ zs.length) : ∀ i, i < k → w.cell? ⟨g, q + i, none⟩ = some (.int .u8 (((zs.drop q).take k).getD i 0)) := by
  intro i hi
  rw [cut_get zs q k i hi]; exact h.cell (q + i) (by omega)

theorem vals_at {w : World} {b off n : Nat} {zs : List Int} (hl : zs.length = n) (hc : ∀ i, i < n → w.cell? ⟨b, off + i, none⟩ = some (.int .u8 (zs.getD i 0))) : ∀ j v, (vals zs)[j]? = some v → w.cell? ⟨b, off + j, none⟩ = some v := by
  intro j v hj
  have hj' : j < n := by
    have := (List.getElem?_eq_some_iff.1 hj).1; simpa [vals, hl] using this
  rw [hc j hj', ← hj]
  simp [vals, List.getD_eq_getElem?_getD, List.getElem?_eq_getElem (show j < zs.length by omega)]

/-- What GetText answers, seen in the world behind it. -/
def Ans (w w' : World) (o : Option (List Int × Int)) (v : Value) (x : Int) : Prop :=
  match o with
  | none => v = .slice none 0 0 ∧ x = -1
  | some (ts, y) => ∃ g cp, v = .slice (some ⟨g, 0, none⟩) ts.length cp ∧ x = y ∧ w.heap.size ≤ g ∧ Row w' g cp ts

set_option maxHeartbeats 1000000 in
theorem implGetT (g n : Nat) (zs : List Int) (p : Int) (w : World) (h : Row w g n zs) (hl : zs.length = n) (hz : Byt zs) (hn : n ≤ 1048576) (hp : p ≤ 9223372036854775807) :
    Calls Try.prog 18 #[.slice (some ⟨g, 0, none⟩) n n, .int .i64 p] w fun e w' => ∃ v x, e = .returned (.tuple #[v, .int .i64 x]) ∧ w.grownBy w' none ∧ Ans w w' (getText zs p) v x := by
  have hG := implGet (some ⟨g, 0, none⟩) n n zs p w (h.reads' hl) hz (by omega) hp
  have hb := getNum_bounds zs hz p
  unfold getText
  obtain ⟨k, q, hkq⟩ : ∃ k q, getNum zs p = (k, q) := ⟨_, _, rfl⟩
  rw [hkq] at hG hb ⊢
  simp only at hG hb ⊢
  clear hkq
  by_cases hbad : q < 0 ∨ 40 < k ∨ (zs.length : Int) - q < k
  · rw [if_pos hbad]
    go_enter Try.func18, Try.ntmps18
    go_wp2_with fail
    refine hG.mono ?_
    rintro e w1 ⟨rfl, hq1⟩
    have hg1 := quiet hq1
    have HG1 : Hid (w.grownBy w1 none) := hg1
    clear hG hq1 hg1 hz h
    rcases (show q < 0 ∨ (0 ≤ q ∧ 40 < k) ∨ (0 ≤ q ∧ k ≤ 40 ∧ (n : Int) - q < k) by omega) with h1 | ⟨h1, h2⟩ | ⟨h1, h2, h3⟩
    · have hq : q = -1 := by
        rcases hb with hb | hb
        · exact (Prod.mk.inj hb).2
        · omega
      clear hb hbad
      go_wp2
      go_ret2
      exact ⟨_, _, rfl, HG1.out, rfl, rfl⟩
    · clear hbad
      go_wp2
      go_ret2
      exact ⟨_, _, rfl, HG1.out, rfl, rfl⟩
    · have hq2 : q ≤ n := by
        rcases hb with hb | hb
        · have := (Prod.mk.inj hb).2; omega
        · omega
      clear hb hbad
      go_wp2
      go_ret2
      exact ⟨_, _, rfl, HG1.out, rfl, rfl⟩
  · rw [if_neg hbad]
    obtain ⟨k', rfl⟩ : ∃ k' : Nat, k = k' := ⟨k.toNat, by rcases hb with hb | hb <;> first | omega | (have := (Prod.mk.inj hb).2; omega)⟩
    obtain ⟨q', rfl⟩ : ∃ q' : Nat, q = q' := ⟨q.toNat, by omega⟩
    have hk40 : k' ≤ 40 := by omega
    have hqk : q' + k' ≤ n := by omega
    rw [Int.toNat_natCast, Int.toNat_natCast]
    clear hb hbad
    have hml := cut_len zs q' k' (by omega)
    have hcr := fun w (h : Row w g n zs) => cut_reads h q' k' (by omega)
    generalize (zs.drop q').take k' = ts at *
    have hmk := make_run k' (by omega)
    rw [made_is] at hmk
    have HO : Hid ((vals (List.replicate k' 0)).length = k') := by show _ = _; simp [vals]
    have HE : Hid (splice (vals (List.replicate k' 0)) 0 (vals ts) = vals ts) := by
      show _ = _
      unfold splice
      rw [List.take_zero, List.nil_append, List.drop_of_length_le (by simp [vals, hml]), List.append_nil]
    have HV : Hid (∀ v ∈ vals ts, v.oneCell' = true) := vals_one ts
    have HT : Hid ((vals ts).length = k') := by show _ = _; simp [vals, hml]
    generalize hO : vals (List.replicate k' 0) = O at *
    have HML : Hid (ts.length = k') := hml
    have HCR : Hid (∀ w, Row w g n zs → ∀ i, i < k' → w.cell? ⟨g, q' + i, none⟩ = some (.int .u8 (ts.getD i 0))) := hcr
    have H : Hid (Row w g n zs) := h
    clear hml hcr hO h hl hz
    go_enter Try.func18, Try.ntmps18
    go_wp2_with fail
    refine hG.mono ?_
    rintro e w1 ⟨rfl, hq1⟩
    have hg1 := quiet hq1
    have HG1 : Hid (w.grownBy w1 none) := hg1
    have HB1 : Hid (Below w1.heap.size w1 (w1.alloc (.cells O.toArray 5))) := (Below.refl _ _).alloc (Nat.le_refl _) _
    have HSRC : Hid (∀ i, i < k' → (w1.alloc (.cells O.toArray 5)).cell? ⟨g, q' + i, none⟩ = some (.int .u8 (ts.getD i 0))) := HCR.out _ ((H.out.kept hg1 (by simp)).kept (World.grownBy_alloc w1 (.cells O.toArray 5) none) (by simp))
    clear hG hq1 hg1
    go_wp2_with (first
      | (refine wpList_copy_splice rfl (.tmp 31) (.tmp 34) 22 22 rfl 5 Try.underlying22 size1 _ _ _ _ _ _ rfl rfl w1.heap.size 0 O 5 (heap_alloc_new w1 _) (vals ts) ?d1 ?d2 ?d4 HV.out w1.heap.size w1 HB1.out (Nat.le_refl _) ?d3))
    case d1 => rw [HT.out]; exact (Nat.min_eq_right (by omega)).symm
    case d2.inl => intro hp; exfalso; have := HT.out; omega
    case d2.inr => exact fun _ => vals_at HML.out HSRC.out
    case d4 => have := HT.out; have := HO.out; omega
    all_goals
      intro w2 HG2 hB2
      have HGA : Hid (w.grownBy w2 none) := grown_trans HG1.out (grown_of_below hB2)
      have HRW : Hid (Row w2 w1.heap.size k' ts) := row_of (by have := HG2.out; rwa [HE.out] at this) HML.out
      have hsz : w.heap.size ≤ w1.heap.size := HG1.out.size
      clear HG2 hB2 HSRC HB1
      go_wp2
      go_ret2
      refine ⟨_, _, rfl, HGA.out, w1.heap.size, k', ?_, rfl, hsz, HRW.out⟩
      rw [HML.out]; rfl

set_option maxHeartbeats 1000000 in
theorem specGetT (g n : Nat) (zs : List Int) (p : Int) (w : World) (h : Row w g n zs) (hl : zs.length = n) (hz : Byt zs) (hn : n ≤ 1048576) (hp : p ≤ 9223372036854775807) :
    Calls Try.prog 17 #[.slice (some ⟨g, 0, none⟩) n n, .int .i64 p] w fun e w' => ∃ v x, e = .returned (.tuple #[v, .int .i64 x]) ∧ w.grownBy w' none ∧ Ans w w' (getText zs p) v x := by
  have hG := specGet (some ⟨g, 0, none⟩) n n zs p w (h.reads' hl) hz (by omega) hp
  have hb := getNum_bounds zs hz p
  unfold getText
  obtain ⟨k, q, hkq⟩ : ∃ k q, getNum zs p = (k, q) := ⟨_, _, rfl⟩
  rw [hkq] at hG hb ⊢
  simp only at hG hb ⊢
  clear hkq
  by_cases hbad : q < 0 ∨ 40 < k ∨ (zs.length : Int) - q < k
  · rw [if_pos hbad]
    go_enter Try.func17, Try.ntmps17
    go_wp2_with fail
    refine hG.mono ?_
    rintro e w1 ⟨rfl, hq1⟩
    have hg1 := quiet hq1
    have HG1 : Hid (w.grownBy w1 none) := hg1
    clear hG hq1 hg1 hz h
    rcases (show q < 0 ∨ (0 ≤ q ∧ 40 < k) ∨ (0 ≤ q ∧ k ≤ 40 ∧ (n : Int) - q < k) by omega) with h1 | ⟨h1, h2⟩ | ⟨h1, h2, h3⟩
    · have hq : q = -1 := by
        rcases hb with hb | hb
        · exact (Prod.mk.inj hb).2
        · omega
      clear hb hbad
      go_wp2
      go_ret2
      exact ⟨_, _, rfl, HG1.out, rfl, rfl⟩
    · clear hbad
      go_wp2
      go_ret2
      exact ⟨_, _, rfl, HG1.out, rfl, rfl⟩
    · have hq2 : q ≤ n := by
        rcases hb with hb | hb
        · have := (Prod.mk.inj hb).2; omega
        · omega
      clear hb hbad
      go_wp2
      go_ret2
      exact ⟨_, _, rfl, HG1.out, rfl, rfl⟩
  · rw [if_neg hbad]
    obtain ⟨k', rfl⟩ : ∃ k' : Nat, k = k' := ⟨k.toNat, by rcases hb with hb | hb <;> first | omega | (have := (Prod.mk.inj hb).2; omega)⟩
    obtain ⟨q', rfl⟩ : ∃ q' : Nat, q = q' := ⟨q.toNat, by omega⟩
    have hk40 : k' ≤ 40 := by omega
    have hqk : q' + k' ≤ n := by omega
    rw [Int.toNat_natCast, Int.toNat_natCast]
    clear hb hbad
    have hml := cut_len zs q' k' (by omega)
    have hcr := fun w (h : Row w g n zs) => cut_reads h q' k' (by omega)
    generalize (zs.drop q').take k' = ts at *
    obtain ⟨i0, hi, hz0, hz1, hz2⟩ := info_parts info5
    have HV : Hid (∀ v ∈ vals ts, v.oneCell' = true) := vals_one ts
    have HT : Hid ((vals ts).length = k' * 1) := by show _ = _; simp [vals, hml]
    have HML : Hid (ts.length = k') := hml
    have HCR : Hid (∀ w, Row w g n zs → ∀ i, i < k' → w.cell? ⟨g, q' + i, none⟩ = some (.int .u8 (ts.getD i 0))) := hcr
    have H : Hid (Row w g n zs) := h
    have C1 : Hid (0 + k' ≤ maxLen) := by show _ ≤ _; unfold maxLen; omega
    have C2 : Hid ((0 + k') * 1 ≤ 140737488355328) := by show _ ≤ _; omega
    clear hml hcr h hl hz
    go_enter Try.func17, Try.ntmps17
    go_wp2_with fail
    refine hG.mono ?_
    rintro e w1 ⟨rfl, hq1⟩
    have hg1 := quiet hq1
    have HG1 : Hid (w.grownBy w1 none) := hg1
    have HO : Hid ((w1.alloc (.cells #[] 5)).ownsRow w1.heap.size 5 1 (.slice (some ⟨w1.heap.size, 0, none⟩) 0 0) 0 []) := World.ownsRow_made w1 #[] 0 (Nat.le_refl _) (Nat.zero_le _) rfl
    have HB1 : Hid (Below w1.heap.size w1 (w1.alloc (.cells #[] 5))) := (Below.refl _ _).alloc (Nat.le_refl _) _
    have HSRC : Hid (∀ i, i < k' → (w1.alloc (.cells #[] 5)).cell? ⟨g, q' + i, none⟩ = some (.int .u8 (ts.getD i 0))) := HCR.out _ ((H.out.kept hg1 (by simp)).kept (World.grownBy_alloc w1 (.cells #[] 5) none) (by simp))
    clear hG hq1 hg1
    have ES0 : Hid (Value.slice (some ⟨g, 0, none⟩) (q' + k' - q') 0 = .slice (some ⟨g, 0, none⟩) k' 0) := by show _ = _; rw [show q' + k' - q' = k' by omega]
    have ES : Hid (Value.slice (some ⟨g, q', none⟩) (q' + k' - q') (n - q') = .slice (some ⟨g, q', none⟩) k' (n - q')) := by show _ = _; rw [show q' + k' - q' = k' by omega]
    have fin : ∀ (v : Value) (w2 : World), w2.ownsRow w1.heap.size 5 1 v (0 + k') ([] ++ vals ts) → (w1.alloc (.cells #[] 5)).grownBy w2 (some w1.heap.size) → (v = .slice none 0 0 ↔ Value.slice (some ⟨w1.heap.size, 0, none⟩) 0 0 = .slice none 0 0 ∧ k' = 0) →
        ∃ v' x', Ending.returned (.tuple #[v, .int .i64 ((q' : Int) + k')]) = .returned (.tuple #[v', .int .i64 x']) ∧ w.grownBy w2 none ∧ Ans w w2 (some (ts, (q' : Int) + k')) v' x' := by
      intro v w2 ho hg hnil
      have hb : Below w1.heap.size w1 w2 := HB1.out.grown hg (by simp) (by simp)
      have ho' : w2.ownsRow w1.heap.size 5 1 v k' (vals ts) := by simpa using ho
      obtain ⟨g', cp, rfl, hB, hrow, hlen, hcp⟩ := row_own ho' (by intro e; have hh := (hnil.1 e).1; injection hh with h1; cases h1)
      exact ⟨_, _, rfl, grown_trans HG1.out (grown_of_below hb), g', cp, by rw [hlen], rfl, Nat.le_trans HG1.out.size hB, hrow⟩
    have FIN : Hid (∀ (v : Value) (w2 : World), w2.ownsRow w1.heap.size 5 1 v (0 + k') ([] ++ vals ts) → (w1.alloc (.cells #[] 5)).grownBy w2 (some w1.heap.size) → (v = .slice none 0 0 ↔ Value.slice (some ⟨w1.heap.size, 0, none⟩) 0 0 = .slice none 0 0 ∧ k' = 0) →
        ∃ v' x', Ending.returned (.tuple #[v, .int .i64 ((q' : Int) + k')]) = .returned (.tuple #[v', .int .i64 x']) ∧ w.grownBy w2 none ∧ Ans w w2 (some (ts, (q' : Int) + k')) v' x') := fin
    clear fin
    have D2 : Hid (∀ j u, (vals ts)[j]? = some u → (w1.alloc (.cells #[] 5)).cell? ((⟨g, q', none⟩ : Addr).add j) = some u) := vals_get HML.out HSRC.out
    by_cases hnq : n = q'
    · have hk0 : k' = 0 := by omega
      have D1 : Hid (∀ j u, (vals ts)[j]? = some u → (w1.alloc (.cells #[] 5)).cell? ((⟨g, 0, none⟩ : Addr).add j) = some u) := by
        intro j u hj
        have h1 := (List.getElem?_eq_some_iff.1 hj).1
        have := HT.out; omega
      have HK0 : Hid (k' = 0) := hk0
      clear hk0
      go_wp2_with (at_builtin; go_must (refine wpList_append_own _ rfl (.tmp 28) (.tmp 34) 22 rfl w1.heap.size 5 i0 (.int .u8 0) 1 1 Try.underlying22 hi hz0 hz1 hz2 rfl (by decide) (.slice (some ⟨w1.heap.size, 0, none⟩) 0 0) 0 [] rfl HO.out ⟨g, 0, none⟩ k' 0 (vals ts) ES0.out HT.out D1.out HV.out C1.out C2.out (by simp) ?_); intro v2 w2 hown2 hgrow2 hnil2)
      go_ret2
      exact FIN.out v2 w2 hown2 hgrow2 hnil2
    · go_wp2_with (at_builtin; go_must (refine wpList_append_own _ rfl (.tmp 28) (.tmp 34) 22 rfl w1.heap.size 5 i0 (.int .u8 0) 1 1 Try.underlying22 hi hz0 hz1 hz2 rfl (by decide) (.slice (some ⟨w1.heap.size, 0, none⟩) 0 0) 0 [] rfl HO.out ⟨g, q', none⟩ k' (n - q') (vals ts) ES.out HT.out D2.out HV.out C1.out C2.out (by simp) ?_); intro v2 w2 hown2 hgrow2 hnil2)
      go_ret2
      exact FIN.out v2 w2 hown2 hgrow2 hnil2
end Go.Proofs.Ytjlehmpdfpefdag.By
