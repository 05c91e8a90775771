/-
  Both PutText (the specification's and the landed one) answer the bytes and behind them those of the text. No statement is proved here.
-/
import Derived.Test.YtjlehmpdfpefdagPutJ
import Derived.Test.YtjlehmpdfpefdagPutS
namespace Go.Proofs.Ytjlehmpdfpefdag.By
open Go.RowKit
set_option linter.unusedVariables false

/-- The bytes of a text; none, where it is too long. -/
def textB (ts : List Int) : List Int := if 40 < ts.length then [] else numB (ts.length : Int) ++ ts
theorem textB_long {ts : List Int} (h : 40 < ts.length) : textB ts = [] := by rw [textB, if_pos h]
theorem textB_fits {ts : List Int} (h : ¬ 40 < ts.length) : textB ts = numB (ts.length : Int) ++ ts := by rw [textB, if_neg h]

set_option maxHeartbeats 2000000 in
theorem implTxt (a a' : Option Addr) (n m cap cap' : Nat) (zs ts : List Int) (w : World) (h : Reads w a n zs) (h' : Reads w a' m ts) (hn : n ≤ 1048576) (hm : m ≤ 1048576) :
    Calls Try.prog 16 #[.slice a n cap, .slice a' m cap'] w fun e w' => ∃ g, e = .returned (.slice (some ⟨g, 0, none⟩) (n + (textB ts).length) (n + (textB ts).length)) ∧ w.grownBy w' none ∧ w.heap.size ≤ g ∧ Row w' g (n + (textB ts).length) (zs ++ textB ts) := by
  have hl' := h'.1
  by_cases hlong : 40 < m
  · rw [textB_long (by omega)]
    have hJ := joinedT a none n 0 cap 0 zs [] w h (reads_nil w) (by omega) (by omega)
    clear h h' hl'
    go_enter Try.func16, Try.ntmps16
    go_wp2_with fail
    refine hJ.mono ?_
    rintro e w1 ⟨g, rfl, hg, hlt, hrow⟩
    clear hJ
    go_wp2
    go_ret
    exact ⟨g, rfl, hg, hlt, hrow⟩
  · rw [textB_fits (by omega), hl']
    obtain ⟨L, hL⟩ : ∃ L, L = numB (m : Int) := ⟨_, rfl⟩
    have hLl : L.length ≤ 5 := by rw [hL]; exact numB_len _
    have hP := implPut a n cap zs (m : Int) w h (by omega)
    rw [← hL] at hP ⊢
    have HE : Hid (n + (L ++ ts).length = n + L.length + m) := by show _ = _; rw [List.length_append, hl']; omega
    clear hL hl'
    generalize hl : n + L.length = l at *
    have hlb : l ≤ 1048581 := by omega
    go_enter Try.func16, Try.ntmps16
    go_wp2_with fail
    refine hP.mono ?_
    rintro e w1 ⟨g1, rfl, hg1, hb1, hrow1⟩
    clear hP
    have hr1 : Reads w1 (some ⟨g1, 0, none⟩) l (zs ++ L) := hrow1.reads' (by have := h.1; rw [List.length_append]; omega)
    have hJ := joinedT (some ⟨g1, 0, none⟩) a' l m l cap' (zs ++ L) ts w1 hr1 (h'.none hg1) (by omega) (by omega)
    clear hl hr1
    go_wp2_with fail
    refine hJ.mono ?_
    rintro e w2 ⟨g2, rfl, hg2, hb2, hrow2⟩
    clear hJ
    go_wp2
    go_ret
    rw [HE.out, ← List.append_assoc]
    exact ⟨g2, rfl, grown_trans hg1 hg2, Nat.le_trans hg1.size hb2, hrow2⟩

set_option maxHeartbeats 2000000 in
theorem specTxt (g0 gt n m cap cap' : Nat) (zs ts : List Int) (w : World) (h : Row w g0 cap zs) (hl : zs.length = n) (h' : Row w gt cap' ts) (hl' : ts.length = m) (hn : n ≤ 1048576) (hm : m ≤ 1048576) :
    Calls Try.prog 15 #[.slice (some ⟨g0, 0, none⟩) n cap, .slice (some ⟨gt, 0, none⟩) m cap'] w fun e w' => ∃ g cp, e = .returned (.slice (some ⟨g, 0, none⟩) (n + (textB ts).length) cp) ∧ w.grownBy w' none ∧ w.heap.size ≤ g ∧ Row w' g cp (zs ++ textB ts) := by
  obtain ⟨i0, hi, hz0, hz1, hz2⟩ := info_parts info5
  by_cases hlong : 40 < m
  · rw [textB_long (by omega)]
    have HO : Hid ((w.alloc (.cells #[] 5)).ownsRow w.heap.size 5 1 (.slice (some ⟨w.heap.size, 0, none⟩) 0 0) 0 []) := World.ownsRow_made w #[] 0 (Nat.le_refl _) (Nat.zero_le _) rfl
    have HN : Hid ((vals zs).length = n * 1) := by show _ = _; simp [vals, hl]
    have HC : Hid (∀ j u, (vals zs)[j]? = some u → (w.alloc (.cells #[] 5)).cell? ((⟨g0, 0, none⟩ : Addr).add j) = some u) := by
      have h2 := h.kept (World.grownBy_alloc w (.cells #[] 5) none) (by simp)
      exact vals_get (n := n) hl (fun i hi => by have := h2.cell i (by omega); simpa using this)
    have HB0 : Hid (Below w.heap.size w (w.alloc (.cells #[] 5))) := (Below.refl _ _).alloc (Nat.le_refl _) _
    have HV' : Hid (∀ v ∈ vals zs, v.oneCell' = true) := vals_one zs
    have C1 : Hid (0 + n ≤ maxLen) := by show _ ≤ _; unfold maxLen; omega
    have C2 : Hid ((0 + n) * 1 ≤ 140737488355328) := by show _ ≤ _; omega
    clear h h' hl hl'
    go_enter Try.func15, Try.ntmps15
    go_wp2_with (at_builtin; go_must (refine wpList_append_own _ rfl (.tmp 8) (.tmp 9) 22 rfl w.heap.size 5 i0 (.int .u8 0) 1 1 Try.underlying22 hi hz0 hz1 hz2 rfl (by decide) (.slice (some ⟨w.heap.size, 0, none⟩) 0 0) 0 [] rfl HO.out ⟨g0, 0, none⟩ n cap (vals zs) rfl HN.out HC.out HV'.out C1.out C2.out (by simp) ?_); intro v1 w1 hown1 hgrow1 hnil1)
    go_ret
    have hb := HB0.out.grown hgrow1 (by simp) (own_lt HO.out)
    have hown : w1.ownsRow w.heap.size 5 1 v1 n (vals zs) := by simpa using hown1
    obtain ⟨g, cp, rfl, hB, hrow, hlen, hcp⟩ := row_own hown (by intro e; have hh := (hnil1.1 e).1; injection hh with h1; cases h1)
    exact ⟨g, cp, by simp, grown_of_below hb, hB, by simpa using hrow⟩
  · rw [textB_fits (by omega), hl']
    obtain ⟨L, hL⟩ : ∃ L, L = numB (m : Int) := ⟨_, rfl⟩
    have hLl : L.length ≤ 5 := by rw [hL]; exact numB_len _
    have hP := specPutM g0 n cap zs (m : Int) w h hl (by omega)
    rw [← hL] at hP ⊢
    have HE : Hid (n + (L ++ ts).length = n + L.length + m) := by show _ = _; rw [List.length_append, hl']; omega
    have HZ : Hid ((zs ++ L).length = n + L.length) := by show _ = _; rw [List.length_append, hl]
    clear hL
    generalize hl2 : n + L.length = l at *
    have hlb : l ≤ 1048581 := by omega
    have HN : Hid ((vals ts).length = m * 1) := by show _ = _; simp [vals, hl']
    have HV' : Hid (∀ v ∈ vals ts, v.oneCell' = true) := vals_one ts
    have C1 : Hid (l + m ≤ maxLen) := by show _ ≤ _; unfold maxLen; omega
    have C2 : Hid ((l + m) * 1 ≤ 140737488355328) := by show _ ≤ _; omega
    have H' : Hid (Row w gt cap' ts) := h'
    have HL' : Hid (ts.length = m) := hl'
    clear h' hl' hl h hl2
    go_enter Try.func15, Try.ntmps15
    go_wp2_with fail
    refine hP.mono ?_
    rintro e w1 ⟨g1, c1, rfl, hg1, hb1, hrow1, hc1⟩
    clear hP
    have HO : Hid (w1.ownsRow w.heap.size 5 1 (.slice (some ⟨g1, 0, none⟩) l c1) l (vals (zs ++ L))) := own_row hrow1 HZ.out hb1 hc1
    have HC : Hid (∀ j u, (vals ts)[j]? = some u → w1.cell? ((⟨gt, 0, none⟩ : Addr).add j) = some u) := by
      have h2 := H'.out.kept hg1 (by simp)
      exact vals_get (n := m) HL'.out (fun i hi => by have := h2.cell i (by have := HL'.out; omega); simpa using this)
    have HS : Hid (w.heap.size ≤ w1.heap.size) := hg1.size
    have HB1 : Hid (Below w.heap.size w w1) := (Below.refl _ _).grown hg1 (Nat.le_refl _) (by simp)
    clear hg1 hb1 hrow1 hc1
    go_wp2_with (at_builtin; go_must (refine wpList_append_own _ rfl (.tmp 14) (.tmp 15) 22 rfl w.heap.size 5 i0 (.int .u8 0) 1 1 Try.underlying22 hi hz0 hz1 hz2 rfl (by decide) (.slice (some ⟨g1, 0, none⟩) l c1) l (vals (zs ++ L)) rfl HO.out ⟨gt, 0, none⟩ m cap' (vals ts) rfl HN.out HC.out HV'.out C1.out C2.out HS.out ?_); intro v2 w2 hown2 hgrow2 hnil2)
    go_ret
    have hb := HB1.out.grown hgrow2 HS.out (own_lt HO.out)
    rw [vals_app] at hown2
    obtain ⟨g, cp, rfl, hB, hrow, hlen, hcp⟩ := row_own hown2 (by intro e; have hh := (hnil2.1 e).1; injection hh with h1; cases h1)
    rw [HE.out, ← List.append_assoc]
    exact ⟨g, cp, rfl, grown_of_below hb, hB, hrow⟩
end Go.Proofs.Ytjlehmpdfpefdag.By
