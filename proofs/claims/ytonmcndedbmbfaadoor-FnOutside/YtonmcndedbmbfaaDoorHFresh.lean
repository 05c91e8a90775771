/-
  Contracts of fresh and own (copies of a heap's lists), for this seat's proofs. No statement is proved here.
-/
import Derived.Test.YtonmcndedbmbfaaDoorHHeap
import Derived.Laws.AppendOwnNone
namespace Go.Proofs.YtonmcndedbmbfaaDoor.By
open Go.RowKit
set_option linter.unusedVariables false

/-- What an append has laid, in our words. -/
theorem own_of {w w0 : World} {B : Nat} {t : TypeId} {size : Nat} {v : Value} {n : Nat} {zs : List Int} (h : w.ownsRow B t size v n (valsI zs)) (hs : 0 < size) : ∃ a g c, v = .slice a n c ∧ B ≤ g ∧ OwnI w t g a (n * size) zs ∧ n ≤ c := by
  obtain ⟨hl, h⟩ := h
  have hz : zs.length = n * size := by simpa [valsI] using hl
  rcases h with ⟨rfl, rfl⟩ | ⟨g, cap, cur, rfl, hb, hg, hnc, _, hsz, ht⟩
  · exact ⟨none, B, 0, rfl, Nat.le_refl _, ⟨hz, .inl (by omega)⟩, by omega⟩
  · refine ⟨_, g, cap, rfl, hb, ⟨hz, .inr ⟨0, rfl, cur, hg, fun i hi => ?_⟩⟩, hnc⟩
    have h1 : (cur.toList.take (n * size))[i]? = cur.toList[i]? := by rw [List.getElem?_take]; simp; omega
    rw [ht] at h1
    rw [Nat.zero_add, ← Array.getElem?_toList, ← h1]
    simp [valsI, hi]
theorem none_owned (w : World) (B : Nat) (t : TypeId) (size : Nat) : w.ownsRow B t size (.slice none 0 0) 0 (valsI []) := ⟨by simp [valsI], .inl ⟨rfl, rfl⟩⟩
theorem reads_news {w : World} {b off k : Nat} {zs : List Int} (hl : zs.length = k) (hc : ∀ i, i < k → w.cell? ⟨b, off + i, none⟩ = some (.int .i64 (zs.getD i 0))) : ∀ j u, (valsI zs)[j]? = some u → w.cell? ((⟨b, off, none⟩ : Addr).add j) = some u := by
  intro j u hu
  have hj : j < zs.length := by
    have := (List.getElem?_eq_some_iff.1 hu).1; simpa [valsI] using this
  have e : (valsI zs)[j]? = some (.int .i64 (zs.getD j 0)) := by simp [valsI, hj]
  rw [e] at hu
  rw [Go.WideShapes.add_plain, hc j (by omega), hu]
theorem one_vals (zs : List Int) : ∀ u ∈ valsI zs, u.oneCell' = true := by
  intro u hu
  simp only [valsI, List.mem_map] at hu
  obtain ⟨z, _, rfl⟩ := hu
  rfl

/-- The accesses of a log: k of them from a on, room for c, our own, in block g. -/
def LogI (w : World) (t : TypeId) (g : Nat) (b : Option Addr) (m d : Nat) (ls : List Int) : Prop :=
  ls.length = m * 3 ∧ ((b = none ∧ m = 0 ∧ d = 0) ∨ ∃ off cur, b = some ⟨g, off, none⟩ ∧ w.heap[g]? = some (.cells cur t (0, 0)) ∧ m ≤ d ∧ d ≤ maxLen ∧ off + d * 3 ≤ cur.size ∧ ∀ i, i < m * 3 → cur[off + i]? = some (.int .i64 (ls.getD i 0)))
theorem LogI.own {w : World} {t : TypeId} {g m d : Nat} {b : Option Addr} {ls : List Int} (h : LogI w t g b m d ls) : OwnI w t g b (m * 3) ls := by
  obtain ⟨hl, h⟩ := h
  refine ⟨hl, ?_⟩
  rcases h with ⟨_, rfl, _⟩ | ⟨off, cur, rfl, hg, _, _, _, hc⟩
  · exact .inl rfl
  · exact .inr ⟨off, rfl, cur, hg, fun i hi => hc i (by omega)⟩
theorem LogI.le {w : World} {t : TypeId} {g m d : Nat} {b : Option Addr} {ls : List Int} (h : LogI w t g b m d ls) : m ≤ d := by
  rcases h.2 with ⟨_, rfl, rfl⟩ | ⟨off, cur, rfl, hg, hm, _⟩
  · exact Nat.le_refl _
  · exact hm
theorem LogI.kept {w w' : World} {t : TypeId} {g m d : Nat} {b : Option Addr} {ls : List Int} {row : Option Nat} (h : LogI w t g b m d ls) (hg : w.grownBy w' row) (hne : some g ≠ row) : LogI w' t g b m d ls := by
  obtain ⟨hl, h⟩ := h
  refine ⟨hl, ?_⟩
  rcases h with h | ⟨off, cur, rfl, hc, r⟩
  · exact .inl h
  · exact .inr ⟨off, cur, rfl, (hg.block g (lt_of_block hc) hne).trans hc, r⟩
theorem log_of {w : World} {B : Nat} {t : TypeId} {v : Value} {n : Nat} {zs : List Int} (h : w.ownsRow B t 3 v n (valsI zs)) : ∃ a g c, v = .slice a n c ∧ B ≤ g ∧ LogI w t g a n c zs := by
  obtain ⟨hl, h⟩ := h
  have hz : zs.length = n * 3 := by simpa [valsI] using hl
  rcases h with ⟨rfl, rfl⟩ | ⟨g, cap, cur, rfl, hb, hg, hnc, hcm, hsz, ht⟩
  · exact ⟨none, B, 0, rfl, Nat.le_refl _, hz, .inl ⟨rfl, rfl, rfl⟩⟩
  · refine ⟨_, g, cap, rfl, hb, hz, .inr ⟨0, cur, rfl, hg, hnc, hcm, by omega, fun i hi => ?_⟩⟩
    have h1 : (cur.toList.take (n * 3))[i]? = cur.toList[i]? := by rw [List.getElem?_take]; simp; omega
    rw [ht] at h1
    rw [Nat.zero_add, ← Array.getElem?_toList, ← h1]
    simp [valsI, show i < zs.length by omega]

set_option maxHeartbeats 1000000 in
theorem freshI (n c : Nat) (a : Option Addr) (ws : List Int) (w : World) (h : ReadsI w a n ws) (ha : a = none → c = 0) (hn : n ≤ 1048576) :
    Calls Tryd.prog 38 #[.slice a n c] w fun e w' => ∃ a' g c', e = .returned (.slice a' n c') ∧ w.grownBy w' none ∧ w.heap.size ≤ g ∧ OwnI w' 3 g a' n ws ∧ n ≤ c' := by
  obtain ⟨i0, hi, hz0, hz1, hz2⟩ := info_parts infoI
  obtain ⟨hl, h⟩ := h
  have HO : Hid _ := none_owned w w.heap.size 3 1
  have fin : ∀ v w', w'.ownsRow w.heap.size 3 1 v n (valsI ws) → w.grownBy w' none → ∃ a' g c', Ending.returned v = Ending.returned (.slice a' n c') ∧ w.grownBy w' none ∧ w.heap.size ≤ g ∧ OwnI w' 3 g a' n ws ∧ n ≤ c' := by
    intro v w' ho hg
    obtain ⟨a', g, c', rfl, hb, o, hc⟩ := own_of (w0 := w) ho (by omega)
    exact ⟨a', g, c', rfl, hg, hb, by simpa using o, hc⟩
  have FIN : Hid _ := fin
  clear fin
  by_cases h0 : n = 0
  · obtain rfl : ws = [] := List.eq_nil_of_length_eq_zero (by omega)
    subst h0
    clear h
    cases a with
    | none =>
      obtain rfl := ha rfl
      have q : Calls Tryd.prog 38 #[.slice none 0 0] w fun e w' => e = .returned (.slice none 0 0) ∧ w' = w := by
        go_enter Tryd.func38, Tryd.ntmps38
        go_wp2_with (at_builtin; go_must (refine wpList_append_own_none rfl (.const (.slice none 0 0)) (.tmp 3) 23 rfl w.heap.size 3 i0 1 Tryd.underlying23 hi (.slice none 0 0) 0 (valsI []) rfl HO.out rfl ?_))
        go_wp2
        go_ret
        exact ⟨rfl, rfl⟩
      refine q.mono ?_
      rintro e w' ⟨rfl, rfl⟩
      exact FIN.out _ _ (none_owned _ _ _ _) (World.grownBy.refl _ _)
    | some ad =>
      go_enter Tryd.func38, Tryd.ntmps38
      go_wp2_with (at_builtin; go_must (refine wpList_append_own _ rfl (.const (.slice none 0 0)) (.tmp 3) 23 rfl w.heap.size 3 i0 (.int .i64 0) 1 8 Tryd.underlying23 hi hz0 hz1 hz2 rfl (by decide) (.slice none 0 0) 0 (valsI []) rfl HO.out ad 0 c (valsI []) rfl rfl (fun j u hu => by simp [valsI] at hu) (one_vals []) (by simp [maxLen]) (by omega) (Nat.le_refl _) ?_))
      intro v w' ho hg _
      have FO : Hid _ := FIN.out v w' (by simpa [valsI] using ho) (by simpa [Value.ownBlock] using hg)
      clear ho hg FIN HO
      go_wp2
      go_ret
      exact FO.out
  rcases h with h | ⟨b, off, rfl, hc⟩
  · exact absurd h h0
  have HN : Hid _ := reads_news hl hc
  have HL : Hid ((valsI ws).length = n * 1) := by show (valsI ws).length = n * 1; simp [valsI, hl]
  have H1 : Hid _ := one_vals ws
  clear hc hl
  go_enter Tryd.func38, Tryd.ntmps38
  go_wp2_with (at_builtin; go_must (refine wpList_append_own _ rfl (.const (.slice none 0 0)) (.tmp 3) 23 rfl w.heap.size 3 i0 (.int .i64 0) 1 8 Tryd.underlying23 hi hz0 hz1 hz2 rfl (by decide) (.slice none 0 0) 0 (valsI []) rfl HO.out ⟨b, off, none⟩ n c (valsI ws) rfl HL.out HN.out H1.out (by simp [maxLen]; omega) (by omega) (Nat.le_refl _) ?_))
  intro v w' ho hg _
  have ho' : w'.ownsRow w.heap.size 3 1 v n (valsI ws) := by simpa [valsI] using ho
  have FO : Hid _ := FIN.out v w' ho' (by simpa [Value.ownBlock] using hg)
  clear ho ho' hg FIN HN HL H1 HO
  go_wp2
  go_ret
  exact FO.out
set_option maxHeartbeats 1000000 in
theorem freshL (n c : Nat) (a : Option Addr) (ws : List Int) (w : World) (h : ReadsI w a (n * 3) ws) (ha : a = none → c = 0) (hn : n ≤ 1048576) :
    Calls Tryd.prog 39 #[.slice a n c] w fun e w' => ∃ a' g c', e = .returned (.slice a' n c') ∧ w.grownBy w' none ∧ w.heap.size ≤ g ∧ LogI w' 59 g a' n c' ws := by
  obtain ⟨i0, hi, hz0, hz1, hz2⟩ := info_parts infoA
  obtain ⟨hl, h⟩ := h
  have HO : Hid _ := none_owned w w.heap.size 59 3
  have fin : ∀ v w', w'.ownsRow w.heap.size 59 3 v n (valsI ws) → w.grownBy w' none → ∃ a' g c', Ending.returned v = Ending.returned (.slice a' n c') ∧ w.grownBy w' none ∧ w.heap.size ≤ g ∧ LogI w' 59 g a' n c' ws := by
    intro v w' ho hg
    obtain ⟨a', g, c', rfl, hb, o⟩ := log_of ho
    exact ⟨a', g, c', rfl, hg, hb, o⟩
  have FIN : Hid _ := fin
  clear fin
  by_cases h0 : n = 0
  · obtain rfl : ws = [] := List.eq_nil_of_length_eq_zero (by omega)
    subst h0
    clear h
    cases a with
    | none =>
      obtain rfl := ha rfl
      have q : Calls Tryd.prog 39 #[.slice none 0 0] w fun e w' => e = .returned (.slice none 0 0) ∧ w' = w := by
        go_enter Tryd.func39, Tryd.ntmps39
        go_wp2_with (at_builtin; go_must (refine wpList_append_own_none rfl (.const (.slice none 0 0)) (.tmp 3) 24 rfl w.heap.size 59 i0 3 Tryd.underlying24 hi (.slice none 0 0) 0 (valsI []) rfl HO.out rfl ?_))
        go_wp2
        go_ret
        exact ⟨rfl, rfl⟩
      refine q.mono ?_
      rintro e w' ⟨rfl, rfl⟩
      exact FIN.out _ _ (none_owned _ _ _ _) (World.grownBy.refl _ _)
    | some ad =>
      go_enter Tryd.func39, Tryd.ntmps39
      go_wp2_with (at_builtin; go_must (refine wpList_append_own _ rfl (.const (.slice none 0 0)) (.tmp 3) 24 rfl w.heap.size 59 i0 (.agg #[.int .i64 0, .int .i64 0, .int .i64 0]) 3 24 Tryd.underlying24 hi hz0 hz1 hz2 rfl (by decide) (.slice none 0 0) 0 (valsI []) rfl HO.out ad 0 c (valsI []) rfl rfl (fun j u hu => by simp [valsI] at hu) (one_vals []) (by simp [maxLen]) (by omega) (Nat.le_refl _) ?_))
      intro v w' ho hg _
      have FO : Hid _ := FIN.out v w' (by simpa [valsI] using ho) (by simpa [Value.ownBlock] using hg)
      clear ho hg FIN HO
      go_wp2
      go_ret
      exact FO.out
  rcases h with h | ⟨b, off, rfl, hc⟩
  · exact absurd h (by omega)
  have HN : Hid _ := reads_news hl hc
  have HL : Hid ((valsI ws).length = n * 3) := by show (valsI ws).length = n * 3; simp [valsI, hl]
  have H1 : Hid _ := one_vals ws
  clear hc hl
  go_enter Tryd.func39, Tryd.ntmps39
  go_wp2_with (at_builtin; go_must (refine wpList_append_own _ rfl (.const (.slice none 0 0)) (.tmp 3) 24 rfl w.heap.size 59 i0 (.agg #[.int .i64 0, .int .i64 0, .int .i64 0]) 3 24 Tryd.underlying24 hi hz0 hz1 hz2 rfl (by decide) (.slice none 0 0) 0 (valsI []) rfl HO.out ⟨b, off, none⟩ n c (valsI ws) rfl HL.out HN.out H1.out (by simp [maxLen]; omega) (by omega) (Nat.le_refl _) ?_))
  intro v w' ho hg _
  have ho' : w'.ownsRow w.heap.size 59 3 v n (valsI ws) := by simpa [valsI] using ho
  have FO : Hid _ := FIN.out v w' ho' (by simpa [Value.ownBlock] using hg)
  clear ho ho' hg FIN HN HL H1 HO
  go_wp2
  go_ret
  exact FO.out
end Go.Proofs.YtonmcndedbmbfaaDoor.By
