/-
  GetText, the landed one, at a slice with spare room and at nil. No statement is proved here.
-/
import Derived.Test.YtonmcndedbmbfaaGetI
import Derived.Test.YtonmcndedbmbfaaPutS
import Derived.Test.YtonmcndedbmbfaaTxtMath
namespace Go.Proofs.Ytonmcndedbmbfaa.By
open Go.RowKit
set_option linter.unusedVariables false

theorem cut_len (zs : List Int) (q k : Nat) (h : q + k ≤ zs.length) : ((zs.drop q).take k).length = k := by simp; omega
theorem cut_get (zs : List Int) (q k i : Nat) (h : i < k) : ((zs.drop q).take k).getD i 0 = zs.getD (q + i) 0 := by
  rw [List.getD_eq_getElem?_getD, List.getElem?_take_of_lt h, List.getElem?_drop, ← List.getD_eq_getElem?_getD]
theorem cut_reads {w : World} {g cap : Nat} {zs : List Int} (h : Row w g cap zs) (q k : Nat) (hq : q + k ≤ zs.length) : ∀ i, i < k → w.cell? ⟨g, q + i, none⟩ = some (.int .u8 (((zs.drop q).take k).getD i 0)) := by
  intro i hi
  rw [cut_get zs q k i hi]; exact h.cell (q + i) (by omega)

theorem vals_at {w : World} {b off n : Nat} {zs : List Int} (hl : zs.length = n) (hc : ∀ i, i < n → w.cell? ⟨b, off + i, none⟩ = some (.int .u8 (zs.getD i 0))) : ∀ j v, (vals zs)[j]? = some v → w.cell? ⟨b, off + j, none⟩ = some v := by
  intro j v hj
  have hj' : j < n := by
    have := (List.getElem?_eq_some_iff.1 hj).1; simpa [vals, hl] using this
  rw [hc j hj', ← hj]
  simp [vals, List.getD_eq_getElem?_getD, List.getElem?_eq_getElem (show j < zs.length by omega)]

/-- What GetText answers, seen in the world behind it. -/
def Ans (w w' : World) (o : Option (List Int × Int)) (v : Value) (x : Int) : Prop :=
  match o with
  | none => v = .slice none 0 0 ∧ x = -1
  | some (ts, y) => ∃ g cp, v = .slice (some ⟨g, 0, none⟩) ts.length cp ∧ x = y ∧ w.heap.size ≤ g ∧ Row w' g cp ts

set_option maxHeartbeats 1000000 in
theorem implGetC (g n cap : Nat) (zs : List Int) (p : Int) (w : World) (h : Row w g cap zs) (hl : zs.length = n) (hz : Byt zs) (hn : n ≤ 1048576) (hcap : n ≤ cap) (hp : p ≤ 9223372036854775807) :
    Calls Try.prog 9 #[.slice (some ⟨g, 0, none⟩) n cap, .int .i64 p] w fun e w' => ∃ v x, e = .returned (.tuple #[v, .int .i64 x]) ∧ w.grownBy w' none ∧ Ans w w' (getText zs p) v x := by
  have hG := implGet (some ⟨g, 0, none⟩) n cap zs p w (h.reads' hl) hz (by omega) hp
  have hb := getNum_bounds zs hz p
  unfold getText
  obtain ⟨k, q, hkq⟩ : ∃ k q, getNum zs p = (k, q) := ⟨_, _, rfl⟩
  rw [hkq] at hG hb ⊢
  simp only at hG hb ⊢
  clear hkq
  by_cases hbad : q < 0 ∨ 40 < k ∨ (zs.length : Int) - q < k
  · rw [if_pos hbad]
    go_enter Try.func9, Try.ntmps9
    go_wp2_with fail
    refine hG.mono ?_
    rintro e w1 ⟨rfl, hq1⟩
    have hg1 := quiet hq1
    have HG1 : Hid (w.grownBy w1 none) := hg1
    clear hG hq1 hg1 hz h
    rcases (show q < 0 ∨ (0 ≤ q ∧ 40 < k) ∨ (0 ≤ q ∧ k ≤ 40 ∧ (n : Int) - q < k) by omega) with h1 | ⟨h1, h2⟩ | ⟨h1, h2, h3⟩
    · have hq : q = -1 := by
        rcases hb with hb | hb
        · exact (Prod.mk.inj hb).2
        · omega
      clear hb hbad
      go_wp2
      go_ret2
      exact ⟨_, _, rfl, HG1.out, rfl, rfl⟩
    · clear hbad
      go_wp2
      go_ret2
      exact ⟨_, _, rfl, HG1.out, rfl, rfl⟩
    · have hq2 : q ≤ n := by
        rcases hb with hb | hb
        · have := (Prod.mk.inj hb).2; omega
        · omega
      clear hb hbad
      go_wp2
      go_ret2
      exact ⟨_, _, rfl, HG1.out, rfl, rfl⟩
  · rw [if_neg hbad]
    obtain ⟨k', rfl⟩ : ∃ k' : Nat, k = k' := ⟨k.toNat, by rcases hb with hb | hb <;> first | omega | (have := (Prod.mk.inj hb).2; omega)⟩
    obtain ⟨q', rfl⟩ : ∃ q' : Nat, q = q' := ⟨q.toNat, by omega⟩
    have hk40 : k' ≤ 40 := by omega
    have hqk : q' + k' ≤ n := by omega
    rw [Int.toNat_natCast, Int.toNat_natCast]
    clear hb hbad
    have hml := cut_len zs q' k' (by omega)
    have hcr := fun w (h : Row w g cap zs) => cut_reads h q' k' (by omega)
    generalize (zs.drop q').take k' = ts at *
    have hmk := make_run k' (by omega)
    rw [made_is] at hmk
    have HO : Hid ((vals (List.replicate k' 0)).length = k') := by show _ = _; simp [vals]
    have HE : Hid (splice (vals (List.replicate k' 0)) 0 (vals ts) = vals ts) := by
      show _ = _
      unfold splice
      rw [List.take_zero, List.nil_append, List.drop_of_length_le (by simp [vals, hml]), List.append_nil]
    have HV : Hid (∀ v ∈ vals ts, v.oneCell' = true) := vals_one ts
    have HT : Hid ((vals ts).length = k') := by show _ = _; simp [vals, hml]
    generalize hO : vals (List.replicate k' 0) = O at *
    have HML : Hid (ts.length = k') := hml
    have HCR : Hid (∀ w, Row w g cap zs → ∀ i, i < k' → w.cell? ⟨g, q' + i, none⟩ = some (.int .u8 (ts.getD i 0))) := hcr
    have H : Hid (Row w g cap zs) := h
    clear hml hcr hO h hl hz
    go_enter Try.func9, Try.ntmps9
    go_wp2_with fail
    refine hG.mono ?_
    rintro e w1 ⟨rfl, hq1⟩
    have hg1 := quiet hq1
    have HG1 : Hid (w.grownBy w1 none) := hg1
    have HB1 : Hid (Below w1.heap.size w1 (w1.alloc (.cells O.toArray 5))) := (Below.refl _ _).alloc (Nat.le_refl _) _
    have HSRC : Hid (∀ i, i < k' → (w1.alloc (.cells O.toArray 5)).cell? ⟨g, q' + i, none⟩ = some (.int .u8 (ts.getD i 0))) := HCR.out _ ((H.out.kept hg1 (by simp)).kept (World.grownBy_alloc w1 (.cells O.toArray 5) none) (by simp))
    clear hG hq1 hg1
    go_wp2_with (first
      | (refine wpList_copy_splice rfl (.tmp 31) (.tmp 34) 22 22 rfl 5 Try.underlying22 size1 _ _ _ _ _ _ rfl rfl w1.heap.size 0 O 5 (heap_alloc_new w1 _) (vals ts) ?d1 ?d2 ?d4 HV.out w1.heap.size w1 HB1.out (Nat.le_refl _) ?d3))
    case d1 => rw [HT.out]; exact (Nat.min_eq_right (by omega)).symm
    case d2.inl => intro hp; exfalso; have := HT.out; omega
    case d2.inr => exact fun _ => vals_at HML.out HSRC.out
    case d4 => have := HT.out; have := HO.out; omega
    all_goals
      intro w2 HG2 hB2
      have HGA : Hid (w.grownBy w2 none) := grown_trans HG1.out (grown_of_below hB2)
      have HRW : Hid (Row w2 w1.heap.size k' ts) := row_of (by have := HG2.out; rwa [HE.out] at this) HML.out
      have hsz : w.heap.size ≤ w1.heap.size := HG1.out.size
      clear HG2 hB2 HSRC HB1
      go_wp2
      go_ret2
      refine ⟨_, _, rfl, HGA.out, w1.heap.size, k', ?_, rfl, hsz, HRW.out⟩
      rw [HML.out]; rfl


theorem getNum_nil (p : Int) : getNum [] p = (0, -1) := by
  unfold getNum; split
  · rfl
  · simp [getAt]

set_option maxHeartbeats 1000000 in
theorem implGetNil (p : Int) (w : World) (hp : p ≤ 9223372036854775807) :
    Calls Try.prog 9 #[.slice none 0 0, .int .i64 p] w fun e w' => e = .returned (.tuple #[.slice none 0 0, .int .i64 (-1)]) ∧ w.grownBy w' none := by
  have hG := implGet none 0 0 [] p w ⟨rfl, .inl rfl⟩ (fun z hz => by simp at hz) (by omega) hp
  rw [getNum_nil] at hG
  go_enter Try.func9, Try.ntmps9
  go_wp2_with fail
  refine hG.mono ?_
  rintro e w1 ⟨rfl, hq1⟩
  have hg1 := quiet hq1
  have HG1 : Hid (w.grownBy w1 none) := hg1
  clear hG hq1 hg1
  simp only []
  go_wp2
  go_ret2
  exact ⟨rfl, HG1.out⟩
theorem getText_nil (p : Int) : getText [] p = none := by
  unfold getText; rw [getNum_nil]; simp
end Go.Proofs.Ytonmcndedbmbfaa.By
