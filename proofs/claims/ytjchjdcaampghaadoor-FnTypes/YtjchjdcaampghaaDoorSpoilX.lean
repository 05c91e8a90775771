/-
  Contract of the drawing function that turns, takes or adds a byte. No statement is proved here.
-/
import Derived.Test.YtjchjdcaampghaaDoorSome
namespace Go.Proofs.YtjchjdcaampghaaDoor.By
open Go.RowKit
set_option linter.unusedVariables false

theorem mine_row {w : World} {B g cap : Nat} {zs : List Int} (h : Row w g cap zs) (hz : Byt zs) (hB : B ≤ g) (hm : cap ≤ maxLen) : Mine w B (.slice (some ⟨g, 0, none⟩) zs.length cap) zs := ⟨own_row h rfl hB hm, hz⟩
theorem Row.take {w : World} {g cap : Nat} {zs : List Int} (h : Row w g cap zs) (i : Nat) : Row w g cap (zs.take i) := by
  obtain ⟨cur, hc, hs, ht, hl⟩ := h
  refine ⟨cur, hc, hs, ?_, by simp; omega⟩
  rw [List.length_take, ← List.take_take, ht]
  simp [vals, List.map_take]
theorem byt_take {zs : List Int} (h : Byt zs) (i : Nat) : Byt (zs.take i) := fun z hz => h z (List.mem_of_mem_take hz)
theorem byt_drop {zs : List Int} (h : Byt zs) (i : Nat) : Byt (zs.drop i) := fun z hz => h z (List.mem_of_mem_drop hz)
theorem byt_app {a b : List Int} (h : Byt a) (k : Byt b) : Byt (a ++ b) := fun z hz => (List.mem_append.1 hz).elim (h z) (k z)
theorem byt_set {zs : List Int} {x : Int} (h : Byt zs) (i : Nat) (h0 : 0 ≤ x) (h1 : x ≤ 255) : Byt (zs.set i x) := by
  intro z hz
  rcases List.mem_or_eq_of_mem_set hz with hz | rfl
  · exact h z hz
  · exact ⟨h0, h1⟩

theorem pickP (w0 w1 : World) (g : Nat) (a : Option Addr) (n cap : Nat) (zs : List Int) (hr : Reads w0 a n zs) (hz : Byt zs) (hn : n ≤ 9223372036854775807) (hc : Cur w0 w1 g a n cap) (l : List Int) (P : Int → Prop) (h0 : 0 < l.length) (h1 : l.length ≤ 1000) (hI : ∀ x ∈ l, P x) :
    Calls Tryd.prog 26 #[.pointer (some ⟨g, 0, none⟩), .slice (some ⟨w1.heap.size, 0, none⟩) l.length l.length] (w1.alloc (.cells (l.map (Value.int .i64)).toArray 3)) fun e w' => ∃ x, e = .returned (.int .i64 x) ∧ P x ∧ Kept w0 w1 w' g a n cap := by
  have hga := World.grownBy_alloc w1 (.cells (l.map (Value.int .i64)).toArray 3) none
  have hlt : g < w1.heap.size := hc.lt
  refine (pickT w0 _ g a n cap zs hr hz hn (hc.none hga) w1.heap.size l.length l h0 h1 (by omega) (list_cells (heap_alloc_new w1 _))).mono ?_
  rintro e w2 ⟨j, hj, he, hk⟩
  refine ⟨_, he, ?_, hk.1, grown_trans (grown_none hga _) hk.2⟩
  rw [List.getD_eq_getElem?_getD, List.getElem?_eq_getElem hj]
  exact hI _ (List.getElem_mem hj)
theorem u8_in (t : Int) : 0 ≤ IntKind.u8.wrap t ∧ IntKind.u8.wrap t ≤ 255 := by rw [IntKind.wrap_u8]; omega
theorem grown_drewS (w : World) (row : Option Nat) : w.grownBy w.drew row := ⟨rfl, rfl, rfl, Nat.le_refl _, fun _ _ _ => rfl⟩

set_option maxRecDepth 8000 in
set_option maxHeartbeats 4000000 in
theorem spoil0 (w0 w : World) (g : Nat) (a : Option Addr) (n cap : Nat) (zs : List Int) (hr : Reads w0 a n zs) (hz : Byt zs) (hn : n ≤ 9223372036854775807) (hc : Cur w0 w g a n cap)
    (gb nb capb : Nat) (bs : List Int) (hb : Row w gb capb bs) (hbl : bs.length = nb) (hbb : Byt bs) (hnb : nb ≤ 100000) (hnb0 : nb ≤ 0) :
    Calls Tryd.prog 25 #[.pointer (some ⟨g, 0, none⟩), .slice (some ⟨gb, 0, none⟩) nb capb] w fun e w' => ∃ v ys, e = .returned v ∧ ys.length ≤ nb + 1 ∧ Mine w' w.heap.size v ys ∧ Kept w0 w w' g a n cap := by
  obtain ⟨i0, hi, hz0, hz1, hz2⟩ := info_parts info5
  have hB := fun w hc m hm hm1 => belowT w0 w g a n cap zs hr hz hn hc m hm hm1
  have hP := fun w hc l P h0 h1 hI => pickP w0 w g a n cap zs hr hz hn hc l P h0 h1 hI
  have hY := fun w hc => byteT w0 w g a n cap zs hr hz hn hc
  have HB : Hid (∀ w, Cur w0 w g a n cap → ∀ m : Int, 0 < m → m ≤ 9223372036854775807 → Calls Tryd.prog 31 #[.pointer (some ⟨g, 0, none⟩), .int .i64 m] w fun e w' => ∃ x, e = .returned (.int .i64 x) ∧ 0 ≤ x ∧ x < m ∧ Kept w0 w w' g a n cap) := hB
  have HY : Hid (∀ w, Cur w0 w g a n cap → Calls Tryd.prog 35 #[.pointer (some ⟨g, 0, none⟩)] w fun e w' => ∃ x, e = .returned (.int .i64 x) ∧ 0 ≤ x ∧ x ≤ 255 ∧ Cur w0 w' g a n cap ∧ w.grownBy w' (some g)) := hY
  have HPk : Hid (∀ w1, Cur w0 w1 g a n cap → ∀ (l : List Int) (P : Int → Prop), 0 < l.length → l.length ≤ 1000 → (∀ x ∈ l, P x) → Calls Tryd.prog 26 #[.pointer (some ⟨g, 0, none⟩), .slice (some ⟨w1.heap.size, 0, none⟩) l.length l.length] (w1.alloc (.cells (l.map (Value.int .i64)).toArray 3)) fun e w' => ∃ x, e = .returned (.int .i64 x) ∧ P x ∧ Kept w0 w1 w' g a n cap) := hP
  have hgw := hc.lt
  clear hB hP hY hr hz
  have HO : Hid ((w.alloc (.cells #[] 5)).ownsRow w.heap.size 5 1 (.slice (some ⟨w.heap.size, 0, none⟩) 0 0) 0 []) := World.ownsRow_made w #[] 0 (Nat.le_refl _) (Nat.zero_le _) rfl
  have HN : Hid ((vals bs).length = nb * 1) := by show _ = _; simp [vals, hbl]
  have HC : Hid (∀ j u, (vals bs)[j]? = some u → (w.alloc (.cells #[] 5)).cell? ((⟨gb, 0, none⟩ : Addr).add j) = some u) := by
    have h2 := hb.kept (World.grownBy_alloc w (.cells #[] 5) none) (by simp)
    exact vals_get (n := nb) hbl (fun i hi => by have := h2.cell i (by omega); simpa using this)
  have HV' : Hid (∀ v ∈ vals bs, v.oneCell' = true) := vals_one bs
  have C1 : Hid (0 + nb ≤ maxLen) := by show _ ≤ _; unfold maxLen; omega
  have C2 : Hid ((0 + nb) * 1 ≤ 140737488355328) := by show _ ≤ _; omega
  have HL : Hid (bs.length = nb) := hbl
  have HC0 : Hid (Cur w0 w g a n cap) := hc
  clear hb hbl hc
  go_enter Tryd.func25, Tryd.ntmps25
  go_wp2_with (at_builtin; go_must (refine wpList_append_own _ rfl (.tmp 8) (.tmp 9) 22 rfl w.heap.size 5 i0 (.int .u8 0) 1 1 Tryd.underlying22 hi hz0 hz1 hz2 rfl (by decide) (.slice (some ⟨w.heap.size, 0, none⟩) 0 0) 0 [] rfl HO.out ⟨gb, 0, none⟩ nb capb (vals bs) rfl HN.out HC.out HV'.out C1.out C2.out (by simp) ?_); intro v1 w1 hown1 hgrow1 hnil1; obtain ⟨go, co, rfl, hgo, hrow1, hlen1, hco⟩ := row_own (show w1.ownsRow w.heap.size 5 1 v1 nb (vals bs) by simpa using hown1) (by intro e; have hh := (hnil1.1 e).1; injection hh with h1; cases h1))
  have hG1 : w.grownBy w1 none := grown_more (World.grownBy_alloc w (.cells #[] 5) none) hgrow1 (own_lt HO.out)
  have hC1 := HC0.out.none hG1
  clear hown1 hgrow1 hnil1 HO HN HC HV' C1 C2
  refine (HY.out w1 hC1).mono ?_
  rintro e w2 ⟨x, rfl, hx0, hx1, hc2, hg2⟩
  have hrow2 := hrow1.kept hg2 (by simp; omega)
  have hG2 : w.grownBy w2 (some g) := grown_trans (grown_none hG1 _) hg2
  have hs2 : w.heap.size ≤ w2.heap.size := hG2.size
  have HO2 : Hid (w2.ownsRow w.heap.size 5 1 (.slice (some ⟨go, 0, none⟩) nb co) nb (vals bs)) := own_row hrow2 HL.out hgo hco
  have E1 : Hid (nb + 1 ≤ maxLen) := by show _ ≤ _; unfold maxLen; omega
  have E2 : Hid ((nb + 1) * 1 ≤ 140737488355328) := by show _ ≤ _; omega
  have E3 : ∀ o, Hid (w.heap.size ≤ (w2.alloc o).heap.size) := by intro o; show _ ≤ _; simp; omega
  have HC2 : Hid (Cur w0 w2 g a n cap) := hc2
  have HG2 : Hid (w.grownBy w2 (some g)) := hG2
  clear hc2 hg2 hrow2 hG2
  go_wp2_with (at_builtin; go_must (refine wpList_append_own _ rfl (.tmp 14) (.tmp 18) 22 rfl w.heap.size 5 i0 (.int .u8 0) 1 1 Tryd.underlying22 hi hz0 hz1 hz2 rfl (by decide) (.slice (some ⟨go, 0, none⟩) nb co) nb (vals bs) rfl (HO2.out.alloc _) ⟨w2.heap.size, 0, none⟩ 1 1 [.int .u8 x] rfl rfl (cell_one_new _ _ _) (by simp [Value.oneCell']) E1.out E2.out (E3 _).out ?_); intro v3 w3 hown3 hgrow3 hnil3)
  go_ret
  have hOB := own_lt HO2.out
  have hga := World.grownBy_alloc w2 (.cells #[.int .u8 x] 5) none
  have M3 : Mine w3 w.heap.size v3 (bs ++ [x]) := by
    refine ⟨?_, byt_snoc hbb hx0 hx1⟩
    have e := own_step hown3
    have e2 : (bs ++ [x]).length = nb + 1 := by rw [List.length_append, HL.out]; rfl
    rw [e2]; exact e
  exact ⟨_, bs ++ [x], rfl, by rw [List.length_append, HL.out]; exact Nat.le_refl _, M3, (HC2.out.none hga).more hgrow3 hgw hOB, grown_more (grown_more HG2.out hga (by simp)) hgrow3 hOB⟩

set_option maxRecDepth 8000 in
set_option maxHeartbeats 4000000 in
theorem spoil1 (w0 w : World) (g : Nat) (a : Option Addr) (n cap : Nat) (zs : List Int) (hr : Reads w0 a n zs) (hz : Byt zs) (hn : n ≤ 9223372036854775807) (hc : Cur w0 w g a n cap)
    (gb nb capb : Nat) (bs : List Int) (hb : Row w gb capb bs) (hbl : bs.length = nb) (hbb : Byt bs) (hnb : nb ≤ 100000) (hnb0 : 0 < nb) :
    Calls Tryd.prog 25 #[.pointer (some ⟨g, 0, none⟩), .slice (some ⟨gb, 0, none⟩) nb capb] w fun e w' => ∃ v ys, e = .returned v ∧ ys.length ≤ nb + 1 ∧ Mine w' w.heap.size v ys ∧ Kept w0 w w' g a n cap := by
  obtain ⟨i0, hi, hz0, hz1, hz2⟩ := info_parts info5
  have hB := fun w hc m hm hm1 => belowT w0 w g a n cap zs hr hz hn hc m hm hm1
  have hP := fun w hc l P h0 h1 hI => pickP w0 w g a n cap zs hr hz hn hc l P h0 h1 hI
  have hY := fun w hc => byteT w0 w g a n cap zs hr hz hn hc
  have HB : Hid (∀ w, Cur w0 w g a n cap → ∀ m : Int, 0 < m → m ≤ 9223372036854775807 → Calls Tryd.prog 31 #[.pointer (some ⟨g, 0, none⟩), .int .i64 m] w fun e w' => ∃ x, e = .returned (.int .i64 x) ∧ 0 ≤ x ∧ x < m ∧ Kept w0 w w' g a n cap) := hB
  have HY : Hid (∀ w, Cur w0 w g a n cap → Calls Tryd.prog 35 #[.pointer (some ⟨g, 0, none⟩)] w fun e w' => ∃ x, e = .returned (.int .i64 x) ∧ 0 ≤ x ∧ x ≤ 255 ∧ Cur w0 w' g a n cap ∧ w.grownBy w' (some g)) := hY
  have HPk : Hid (∀ w1, Cur w0 w1 g a n cap → ∀ (l : List Int) (P : Int → Prop), 0 < l.length → l.length ≤ 1000 → (∀ x ∈ l, P x) → Calls Tryd.prog 26 #[.pointer (some ⟨g, 0, none⟩), .slice (some ⟨w1.heap.size, 0, none⟩) l.length l.length] (w1.alloc (.cells (l.map (Value.int .i64)).toArray 3)) fun e w' => ∃ x, e = .returned (.int .i64 x) ∧ P x ∧ Kept w0 w1 w' g a n cap) := hP
  have hgw := hc.lt
  clear hB hP hY hr hz
  have HO : Hid ((w.alloc (.cells #[] 5)).ownsRow w.heap.size 5 1 (.slice (some ⟨w.heap.size, 0, none⟩) 0 0) 0 []) := World.ownsRow_made w #[] 0 (Nat.le_refl _) (Nat.zero_le _) rfl
  have HN : Hid ((vals bs).length = nb * 1) := by show _ = _; simp [vals, hbl]
  have HC : Hid (∀ j u, (vals bs)[j]? = some u → (w.alloc (.cells #[] 5)).cell? ((⟨gb, 0, none⟩ : Addr).add j) = some u) := by
    have h2 := hb.kept (World.grownBy_alloc w (.cells #[] 5) none) (by simp)
    exact vals_get (n := nb) hbl (fun i hi => by have := h2.cell i (by omega); simpa using this)
  have HV' : Hid (∀ v ∈ vals bs, v.oneCell' = true) := vals_one bs
  have C1 : Hid (0 + nb ≤ maxLen) := by show _ ≤ _; unfold maxLen; omega
  have C2 : Hid ((0 + nb) * 1 ≤ 140737488355328) := by show _ ≤ _; omega
  have HL : Hid (bs.length = nb) := hbl
  have HC0 : Hid (Cur w0 w g a n cap) := hc
  clear hb hbl hc
  go_enter Tryd.func25, Tryd.ntmps25
  go_wp2_with (at_builtin; go_must (refine wpList_append_own _ rfl (.tmp 8) (.tmp 9) 22 rfl w.heap.size 5 i0 (.int .u8 0) 1 1 Tryd.underlying22 hi hz0 hz1 hz2 rfl (by decide) (.slice (some ⟨w.heap.size, 0, none⟩) 0 0) 0 [] rfl HO.out ⟨gb, 0, none⟩ nb capb (vals bs) rfl HN.out HC.out HV'.out C1.out C2.out (by simp) ?_); intro v1 w1 hown1 hgrow1 hnil1; obtain ⟨go, co, rfl, hgo, hrow1, hlen1, hco⟩ := row_own (show w1.ownsRow w.heap.size 5 1 v1 nb (vals bs) by simpa using hown1) (by intro e; have hh := (hnil1.1 e).1; injection hh with h1; cases h1))
  have hG1 : w.grownBy w1 none := grown_more (World.grownBy_alloc w (.cells #[] 5) none) hgrow1 (own_lt HO.out)
  have hC1 := HC0.out.none hG1
  clear hown1 hgrow1 hnil1 HO HN HC HV' C1 C2
  refine (HB.out w1 hC1 (nb : Int) (by omega) (by omega)).mono ?_
  rintro e w2 ⟨x, rfl, hx0, hx1, hk2⟩
  obtain ⟨j, rfl⟩ : ∃ j : Nat, x = j := ⟨x.toNat, by omega⟩
  go_wp2_with fail
  refine (HB.out w2 hk2.1 5 (by omega) (by omega)).mono ?_
  rintro e w4 ⟨y, rfl, hy0, hy1, hk4⟩
  have hG4 : w.grownBy w4 (some g) := grown_trans (grown_trans (grown_none hG1 _) hk2.2) hk4.2
  have hC4 := hk4.1
  have hrow4 := (hrow1.kept hk2.2 (by simp; omega)).kept hk4.2 (by simp; omega)
  have hj : j < nb := by omega
  have hnc : nb ≤ co := by have := hrow1.len; have := HL.out; omega
  have hjc : (j : Int) ≤ (co : Int) := by omega
  clear hk2 hk4 hG1 hC1 hrow1
  rcases (show y = 0 ∨ y = 1 ∨ y = 2 ∨ y = 3 ∨ y = 4 by omega) with rfl | rfl | rfl | rfl | rfl
  · go_wp2
    go_ret
    have hlt : (bs.take j).length = j := by rw [List.length_take, HL.out]; omega
    have M := mine_row (hrow4.take j) (byt_take hbb j) hgo hco
    rw [hlt] at M
    exact ⟨_, bs.take j, rfl, by omega, M, hC4, hG4⟩
  · go_wp2_with fail
    refine (HY.out w4 hC4).mono ?_
    rintro e w2 ⟨x, rfl, hx0, hx1, hc2, hg2⟩
    have hrow2 := hrow4.kept hg2 (by simp; omega)
    have hG2 : w.grownBy w2 (some g) := grown_trans hG4 hg2
    have hs2 : w.heap.size ≤ w2.heap.size := hG2.size
    have HO2 : Hid (w2.ownsRow w.heap.size 5 1 (.slice (some ⟨go, 0, none⟩) nb co) nb (vals bs)) := own_row hrow2 HL.out hgo hco
    have E1 : Hid (nb + 1 ≤ maxLen) := by show _ ≤ _; unfold maxLen; omega
    have E2 : Hid ((nb + 1) * 1 ≤ 140737488355328) := by show _ ≤ _; omega
    have E3 : ∀ o, Hid (w.heap.size ≤ (w2.alloc o).heap.size) := by intro o; show _ ≤ _; simp; omega
    have HC2 : Hid (Cur w0 w2 g a n cap) := hc2
    have HG2 : Hid (w.grownBy w2 (some g)) := hG2
    clear hc2 hg2 hrow2 hG2
    go_wp2_with (at_builtin; go_must (refine wpList_append_own _ rfl (.tmp 44) (.tmp 48) 22 rfl w.heap.size 5 i0 (.int .u8 0) 1 1 Tryd.underlying22 hi hz0 hz1 hz2 rfl (by decide) (.slice (some ⟨go, 0, none⟩) nb co) nb (vals bs) rfl (HO2.out.alloc _) ⟨w2.heap.size, 0, none⟩ 1 1 [.int .u8 x] rfl rfl (cell_one_new _ _ _) (by simp [Value.oneCell']) E1.out E2.out (E3 _).out ?_); intro v3 w3 hown3 hgrow3 hnil3)
    go_ret
    have hOB := own_lt HO2.out
    have hga := World.grownBy_alloc w2 (.cells #[.int .u8 x] 5) none
    have M3 : Mine w3 w.heap.size v3 (bs ++ [x]) := by
      refine ⟨?_, byt_snoc hbb hx0 hx1⟩
      have e := own_step hown3
      have e2 : (bs ++ [x]).length = nb + 1 := by rw [List.length_append, HL.out]; rfl
      rw [e2]; exact e
    exact ⟨_, bs ++ [x], rfl, by rw [List.length_append, HL.out]; exact Nat.le_refl _, M3, (HC2.out.none hga).more hgrow3 hgw hOB, grown_more (grown_more HG2.out hga (by simp)) hgrow3 hOB⟩
  · go_wp2_with fail
    refine (HY.out w4 hC4).mono ?_
    rintro e w5 ⟨x, rfl, hx0, hx1, hc5, hg5⟩
    have hrow5 := hrow4.kept hg5 (by simp; omega)
    have hG5 := grown_trans hG4 hg5
    have hcell := hrow5.cell j (by have := HL.out; omega)
    obtain ⟨old, hold⟩ : ∃ z, w5.cell? ⟨go, j, none⟩ = some (.int .u8 z) := ⟨_, hcell⟩
    have hfr := hrow5.free j
    have hst := hrow5.store j x
    have hgs := grown_setCell w5 go j (.int .u8 x)
    have M : Hid (Mine (w5.setCell ⟨go, j, none⟩ (.int .u8 x)) w.heap.size (.slice (some ⟨go, 0, none⟩) nb co) (bs.set j x)) := by
      have M := mine_row hst (byt_set hbb j hx0 hx1) hgo hco
      rw [List.length_set, HL.out] at M; exact M
    have K : Hid (Kept w0 w (w5.setCell ⟨go, j, none⟩ (.int .u8 x)) g a n cap) := ⟨hc5.more hgs hgw (by intro k hk; cases hk; exact hgo), grown_more hG5 hgs (by intro k hk; cases hk; exact hgo)⟩
    clear hcell hst hgs hrow5 hG5 hg5 hc5 hrow4 hC4 hG4
    go_wp2
    go_ret
    exact ⟨_, bs.set j x, rfl, by rw [List.length_set, HL.out]; omega, M.out, K.out⟩
  · have hb0 := byt_get hbb j
    rw [← List.getD_eq_getElem?_getD] at hb0
    have hcell4 := hrow4.cell j (by have := HL.out; omega)
    have hcA : ∀ o, (w4.alloc o).cell? ⟨go, j, none⟩ = some (.int .u8 (bs.getD j 0)) := fun o => (World.grownBy_alloc w4 o none).cell hcell4 (by simp)
    have HROW4 : Hid (Row w4.drew go co bs) := hrow4.kept (grown_drewS w4 none) (by simp)
    have HC4 : Hid (Cur w0 w4.drew g a n cap) := hC4.none (grown_drewS w4 none)
    have HG4 : Hid (w.grownBy w4.drew (some g)) := grown_trans hG4 (grown_drewS w4 _)
    have hP4 := HPk.out w4.drew HC4.out [1, 255, 128, 2] (fun x => 0 ≤ x ∧ x ≤ 255) (by decide) (by decide) (by decide)
    have HC5 : Hid (∀ w5, w4.drew.grownBy w5 (some g) → w5.cell? ⟨go, j, none⟩ = some (.int .u8 (bs.getD j 0)) ∧ w5.frozen? ⟨go, j, none⟩ = false) := fun w5 hg => ⟨(HROW4.out.kept hg (by simp; omega)).cell j (by have := HL.out; omega), (HROW4.out.kept hg (by simp; omega)).free j⟩
    have FIN3 : Hid (∀ w5 X, Kept w0 w4.drew w5 g a n cap → 0 ≤ X → X ≤ 255 → Mine (w5.setCell ⟨go, j, none⟩ (.int .u8 X)) w.heap.size (.slice (some ⟨go, 0, none⟩) nb co) (bs.set j X) ∧ Kept w0 w (w5.setCell ⟨go, j, none⟩ (.int .u8 X)) g a n cap) := by
      intro w5 X hk h0 h1
      have hrow5 := HROW4.out.kept hk.2 (by simp; omega)
      have hgs := grown_setCell w5 go j (.int .u8 X)
      have M := mine_row (hrow5.store j X) (byt_set hbb j h0 h1) hgo hco
      rw [List.length_set, HL.out] at M
      exact ⟨M, hk.1.more hgs hgw (by intro k hk; cases hk; exact hgo), grown_more (grown_trans HG4.out hk.2) hgs (by intro k hk; cases hk; exact hgo)⟩
    generalize bs.getD j 0 = z0 at *
    obtain ⟨hz00, hz01⟩ := hb0
    clear hrow4 hC4 hG4
    go_wp2
    go_region_with (go_at_call 26; refine hP4.mono ?_; rintro e w5 ⟨z, rfl, ⟨hz0', hz1'⟩, hk5⟩; obtain ⟨hd5, hf5⟩ := HC5.out w5 hk5.2)
    all_goals
      go_wp2
      go_ret
      have hu := u8_in (IntKind.i64.wrap (IntKind.i64.wrap z0 + z))
      obtain ⟨m1, m2⟩ := FIN3.out w5 (IntKind.u8.wrap (IntKind.i64.wrap (IntKind.i64.wrap z0 + z))) hk5 hu.1 hu.2
      exact ⟨_, bs.set j (IntKind.u8.wrap (IntKind.i64.wrap (IntKind.i64.wrap z0 + z))), rfl, by rw [List.length_set, HL.out]; omega, m1, m2⟩
  · have HTJ : Hid ((vals (bs.take j)).length = j * 1) := by show _ = _; simp [vals, HL.out]; omega
    have HTC : Hid (∀ i u, (vals (bs.take j))[i]? = some u → w4.cell? ((⟨go, 0, none⟩ : Addr).add i) = some u) := by
      have hr := hrow4.take j
      exact vals_get (n := (bs.take j).length) rfl (fun i hi => by have := hr.cell i hi; simpa using this)
    have HV1 : Hid (∀ v ∈ vals (bs.take j), v.oneCell' = true) := vals_one _
    have HV2 : Hid (∀ v ∈ vals (bs.drop (j + 1)), v.oneCell' = true) := vals_one _
    have HDJ : Hid ((vals (bs.drop (j + 1))).length = (nb - (j + 1)) * 1) := by show _ = _; simp [vals, HL.out]
    have hs4 : w.heap.size ≤ w4.heap.size := hG4.size
    have HS4 : Hid (w.heap.size ≤ w4.heap.size) := hs4
    have D1 : Hid (0 + j ≤ maxLen) := by show _ ≤ _; unfold maxLen; omega
    have D2 : Hid ((0 + j) * 1 ≤ 140737488355328) := by show _ ≤ _; omega
    have D3 : Hid (j + (nb - (j + 1)) ≤ maxLen) := by show _ ≤ _; unfold maxLen; omega
    have D4 : Hid ((j + (nb - (j + 1))) * 1 ≤ 140737488355328) := by show _ ≤ _; omega
    have HCD : Hid (∀ w5, w4.grownBy w5 none → ∀ i u, (vals (bs.drop (j + 1)))[i]? = some u → w5.cell? ((⟨go, j + 1, none⟩ : Addr).add i) = some u) := by
      intro w5 hg
      have hr := hrow4.kept hg (by simp)
      refine vals_get (n := (bs.drop (j + 1)).length) rfl (fun i hi => ?_)
      have h1 := hr.cell (j + 1 + i) (by simp at hi; omega)
      rw [h1, List.getD_eq_getElem?_getD, List.getD_eq_getElem?_getD, List.getElem?_drop]
    have FIN4 : Hid (∀ v5 w5 v6 w6, w5.ownsRow w.heap.size 5 1 v5 j (vals (bs.take j)) → w4.grownBy w5 none → w6.ownsRow w.heap.size 5 1 v6 (j + (nb - (j + 1))) (vals (bs.take j) ++ vals (bs.drop (j + 1))) → w5.grownBy w6 v5.ownBlock → Mine w6 w.heap.size v6 (bs.take j ++ bs.drop (j + 1)) ∧ Kept w0 w w6 g a n cap) := by
      intro v5 w5 v6 w6 o5 g5 o6 g6
      have hOB := own_lt o5
      refine ⟨⟨?_, byt_app (byt_take hbb j) (byt_drop hbb (j + 1))⟩, (hC4.none g5).more g6 hgw hOB, grown_more (grown_more hG4 g5 (by simp)) g6 hOB⟩
      have e : (bs.take j ++ bs.drop (j + 1)).length = j + (nb - (j + 1)) := by simp [HL.out]; omega
      rw [e, ← vals_app]; exact o6
    have HLE : Hid ((bs.take j ++ bs.drop (j + 1)).length ≤ nb + 1) := by show _ ≤ _; simp [HL.out]; omega
    clear hrow4 hC4 hG4 hs4
    by_cases hq : co = j + 1
    · have hj1 : ((j : Int) + 1) ≤ (nb : Int) := by omega
      have HD0 : Hid (∀ w5 : World, ∀ i u, (vals (bs.drop (j + 1)))[i]? = some u → w5.cell? ((⟨go, 0, none⟩ : Addr).add i) = some u) := by
        intro w5 i u hu
        have h1 := (List.getElem?_eq_some_iff.1 hu).1
        have := HDJ.out; omega
      go_wp2_with (first | (at_builtin; refine wpList_append_own _ rfl (.tmp 26) (.tmp 29) 22 rfl w.heap.size 5 i0 (.int .u8 0) 1 1 Tryd.underlying22 hi hz0 hz1 hz2 rfl (by decide) (.slice none 0 0) 0 [] rfl (World.ownsRow_nil _ _ _ _) ⟨go, 0, none⟩ j (j + 1) (vals (bs.take j)) rfl HTJ.out HTC.out HV1.out D1.out D2.out HS4.out ?_; intro v5 w5 hown5 hgrow5 hnil5; have HO5 : Hid (w5.ownsRow w.heap.size 5 1 v5 j (vals (bs.take j))) := (show w5.ownsRow w.heap.size 5 1 v5 j (vals (bs.take j)) by simpa using hown5); have HG5 : Hid (w4.grownBy w5 none) := hgrow5; have HS5 : Hid (w.heap.size ≤ w5.heap.size) := Nat.le_trans HS4.out hgrow5.size; clear hown5 hgrow5 hnil5) | (at_builtin; refine wpList_append_own _ rfl (.tmp 31) (.tmp 35) 22 rfl w.heap.size 5 i0 (.int .u8 0) 1 1 Tryd.underlying22 hi hz0 hz1 hz2 rfl (by decide) v5 j (vals (bs.take j)) rfl HO5.out ⟨go, 0, none⟩ (nb - (j + 1)) 0 (vals (bs.drop (j + 1))) rfl HDJ.out (HD0.out _) HV2.out D3.out D4.out HS5.out ?_; intro v6 w6 hown6 hgrow6 hnil6))
      go_ret
      obtain ⟨m1, m2⟩ := FIN4.out v5 w5 v6 w6 HO5.out HG5.out hown6 hgrow6
      exact ⟨v6, _, rfl, HLE.out, m1, m2⟩
    · have hj1 : ((j : Int) + 1) ≤ (nb : Int) := by omega
      go_wp2_with (first | (at_builtin; refine wpList_append_own _ rfl (.tmp 26) (.tmp 29) 22 rfl w.heap.size 5 i0 (.int .u8 0) 1 1 Tryd.underlying22 hi hz0 hz1 hz2 rfl (by decide) (.slice none 0 0) 0 [] rfl (World.ownsRow_nil _ _ _ _) ⟨go, 0, none⟩ j co (vals (bs.take j)) rfl HTJ.out HTC.out HV1.out D1.out D2.out HS4.out ?_; intro v5 w5 hown5 hgrow5 hnil5; have HO5 : Hid (w5.ownsRow w.heap.size 5 1 v5 j (vals (bs.take j))) := (show w5.ownsRow w.heap.size 5 1 v5 j (vals (bs.take j)) by simpa using hown5); have HG5 : Hid (w4.grownBy w5 none) := hgrow5; have HS5 : Hid (w.heap.size ≤ w5.heap.size) := Nat.le_trans HS4.out hgrow5.size; clear hown5 hgrow5 hnil5) | (at_builtin; refine wpList_append_own _ rfl (.tmp 31) (.tmp 35) 22 rfl w.heap.size 5 i0 (.int .u8 0) 1 1 Tryd.underlying22 hi hz0 hz1 hz2 rfl (by decide) v5 j (vals (bs.take j)) rfl HO5.out ⟨go, j + 1, none⟩ (nb - (j + 1)) (co - (j + 1)) (vals (bs.drop (j + 1))) rfl HDJ.out (HCD.out _ HG5.out) HV2.out D3.out D4.out HS5.out ?_; intro v6 w6 hown6 hgrow6 hnil6))
      go_ret
      obtain ⟨m1, m2⟩ := FIN4.out v5 w5 v6 w6 HO5.out HG5.out hown6 hgrow6
      exact ⟨v6, _, rfl, HLE.out, m1, m2⟩

theorem spoilT (w0 w : World) (g : Nat) (a : Option Addr) (n cap : Nat) (zs : List Int) (hr : Reads w0 a n zs) (hz : Byt zs) (hn : n ≤ 9223372036854775807) (hc : Cur w0 w g a n cap)
    (gb nb capb : Nat) (bs : List Int) (hb : Row w gb capb bs) (hbl : bs.length = nb) (hbb : Byt bs) (hnb : nb ≤ 100000) :
    Calls Tryd.prog 25 #[.pointer (some ⟨g, 0, none⟩), .slice (some ⟨gb, 0, none⟩) nb capb] w fun e w' => ∃ v ys, e = .returned v ∧ ys.length ≤ nb + 1 ∧ Mine w' w.heap.size v ys ∧ Kept w0 w w' g a n cap := by
  by_cases h : nb ≤ 0
  · exact spoil0 w0 w g a n cap zs hr hz hn hc gb nb capb bs hb hbl hbb hnb h
  · exact spoil1 w0 w g a n cap zs hr hz hn hc gb nb capb bs hb hbl hbb hnb (by omega)
end Go.Proofs.YtjchjdcaampghaaDoor.By
