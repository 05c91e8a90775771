/-
  What the drawing functions of numbers answer. No statement is proved here.
-/
import Derived.Test.YtjlehmpdfpefdaaSpoil
import Derived.Test.YtjlehmpdfpefdaaPutN
import Derived.Test.YtjlehmpdfpefdaaStepA
import Derived.Test.YtjlehmpdfpefdaaLawFolds
import Derived.Deep.DeepCutAuto
namespace Go.Proofs.Ytjlehmpdfpefdaa.By
open Go.RowKit
set_option linter.unusedVariables false

set_option maxHeartbeats 1000000 in
theorem drawPutNumT (a : Option Addr) (n cap : Nat) (zs : List Int) (w : World) (hr : Reads w a n zs) (hz : Byt zs) (hn : n ≤ 9223372036854775807) :
    Calls Try.prog 7 #[.slice a n cap] w fun e w' => ∃ v ys x, e = .returned (.tuple #[v, .int .i64 x]) ∧ ys.length ≤ 6 ∧ Mine w' w.heap.size v ys ∧ I64 x ∧ w.grownBy w' none := by
  have hS := fun w1 g hc => someT w w1 g a n cap zs hr hz hn hc 6 (by omega) (by omega)
  have hM := fun w1 g hc => numT w w1 g a n cap zs hr hz hn hc
  have HS : Hid (∀ w1 g, Cur w w1 g a n cap → Calls Try.prog 23 #[.pointer (some ⟨g, 0, none⟩), .int .i64 6] w1 fun e w' => ∃ v ys, e = .returned v ∧ (ys.length : Int) ≤ 6 ∧ Mine w' w1.heap.size v ys ∧ Kept w w1 w' g a n cap) := hS
  have HM : Hid (∀ w1 g, Cur w w1 g a n cap → Calls Try.prog 24 #[.pointer (some ⟨g, 0, none⟩)] w1 fun e w' => ∃ x, e = .returned (.int .i64 x) ∧ I64 x ∧ Kept w w1 w' g a n cap) := hM
  have hN := newT a n cap zs w hr hz hn
  clear hS hM hr hz
  go_enter Try.func7, Try.ntmps7
  go_wp2_with fail
  refine hN.mono ?_
  rintro e w1 ⟨g, rfl, hc, hg⟩
  clear hN
  go_wp2_with fail
  refine (HS.out w1 g hc).mono ?_
  rintro e w2 ⟨v, ys, rfl, hy, hm2, hk2⟩
  have HM2 : Hid (Mine w2 w1.heap.size v ys) := hm2
  clear hm2
  go_wp2_with fail
  refine (HM.out w2 g hk2.1).mono ?_
  rintro e w3 ⟨x, rfl, hx, hk3⟩
  have M3 := (HM2.out.kept hk3.2 (by intro k hk; cases hk; exact hc.lt)).mono hg.size
  go_wp2
  go_ret2
  exact ⟨v, ys, x, rfl, by omega, M3, hx, grown_below hk3.1.2.1⟩

theorem Mine.shape {w : World} {B : Nat} {v : Value} {ys : List Int} (h : Mine w B v ys) : (v = .slice none 0 0 ∧ ys = []) ∨ ∃ g cap, v = .slice (some ⟨g, 0, none⟩) ys.length cap ∧ B ≤ g ∧ Row w g cap ys ∧ cap ≤ maxLen := by
  obtain ⟨⟨h1, h2⟩, hb⟩ := h
  rcases h2 with ⟨h, h0⟩ | ⟨g, cp, cur, h, hB, hg, hn, hm, hs, ht⟩
  · exact .inl ⟨h, List.eq_nil_of_length_eq_zero h0⟩
  · exact .inr ⟨g, cp, h, hB, ⟨cur, hg, by simpa using hs, by simpa using ht, by omega⟩, hm⟩
theorem Mine.form {w : World} {B : Nat} {v : Value} {ys : List Int} (h : Mine w B v ys) : ∃ a2 c2, v = .slice a2 ys.length c2 := by
  rcases h.shape with ⟨h', rfl⟩ | ⟨g, cap, h', _⟩
  · exact ⟨_, _, h'⟩
  · exact ⟨_, _, h'⟩
/-- What a number's bytes behind a slice of our own come to. -/
theorem putMine (w : World) (B : Nat) (v : Value) (ys : List Int) (N : Int) (h : Mine w B v ys) (hy : ys.length ≤ 1000) :
    Calls Try.prog 27 #[v, .int .i64 N] w fun e w' => ∃ g cp, e = .returned (.slice (some ⟨g, 0, none⟩) (ys.length + (numB N).length) cp) ∧ w.grownBy w' none ∧ w.heap.size ≤ g ∧ Row w' g cp (ys ++ numB N) ∧ cp ≤ maxLen := by
  obtain ⟨⟨h1, h2⟩, hb⟩ := h
  rcases h2 with ⟨rfl, h0⟩ | ⟨g, cp, cur, rfl, hB, hg, hn, hm, hs, ht⟩
  · obtain rfl : ys = [] := List.eq_nil_of_length_eq_zero h0
    refine (specPutNil N w).mono fun e w' ⟨g, cp, he, r⟩ => ⟨g, cp, by simpa using he, by simpa using r⟩
  · exact specPutM g ys.length cp ys N w ⟨cur, hg, by simpa using hs, by simpa using ht, by omega⟩ rfl (by omega)

theorem u8_id (x : Int) (h0 : 0 ≤ x) (h1 : x < 20) : IntKind.u8.wrap x = x := by rw [IntKind.wrap_u8]; omega
theorem five_new (w : World) (x : Int) : ∀ (j : Nat) (u : Value), [Value.int .u8 255, Value.int .u8 255, Value.int .u8 255, Value.int .u8 255, Value.int .u8 x][j]? = some u → (w.alloc (.cells #[Value.int .u8 255, Value.int .u8 255, Value.int .u8 255, Value.int .u8 255, Value.int .u8 x] 5)).cell? ((⟨w.heap.size, 0, none⟩ : Addr).add j) = some u := by
  intro j u hj
  have hh := heap_alloc_new w (.cells #[Value.int .u8 255, Value.int .u8 255, Value.int .u8 255, Value.int .u8 255, Value.int .u8 x] 5)
  have hj5 : j < 5 := (List.getElem?_eq_some_iff.1 hj).1
  have e : ((⟨w.heap.size, 0, none⟩ : Addr).add j) = ⟨w.heap.size, j, none⟩ := by
    by_cases h0 : j = 0
    · subst h0; simp [Addr.add]
    · simp [Addr.add, h0]
  rw [e, cell_of_row _ _ j _ 5 (0, 0) hh, ← hj]
  rcases (show j = 0 ∨ j = 1 ∨ j = 2 ∨ j = 3 ∨ j = 4 by omega) with rfl | rfl | rfl | rfl | rfl <;> rfl

set_option maxRecDepth 20000 in
set_option maxHeartbeats 2000000 in
theorem drawGetNumT (a : Option Addr) (n cap : Nat) (zs : List Int) (w : World) (hr : Reads w a n zs) (hz : Byt zs) (hn : n ≤ 9223372036854775807) :
    Calls Try.prog 11 #[.slice a n cap] w fun e w' => ∃ v ys x, e = .returned (.tuple #[v, .int .i64 x]) ∧ ys.length ≤ 100 ∧ Mine w' w.heap.size v ys ∧ I64 x ∧ w.grownBy w' none := by
  obtain ⟨i0, hi, hz0, hz1, hz2⟩ := info_parts info5
  have hO := fun w1 g hc m hm hm1 => onceT w w1 g a n cap zs hr hz hn hc m hm hm1
  have hB := fun w1 g hc m hm hm1 => belowT w w1 g a n cap zs hr hz hn hc m hm hm1
  have hS := fun w1 g hc m hm hm1 => someT w w1 g a n cap zs hr hz hn hc m hm hm1
  have hM := fun w1 g hc => numT w w1 g a n cap zs hr hz hn hc
  have hP := fun w1 g hc l P h0 h1 hI => pickP w w1 g a n cap zs hr hz hn hc l P h0 h1 hI
  have hZ := fun w1 g hc gb nb capb bs hb hbl hbb hnb => spoilT w w1 g a n cap zs hr hz hn hc gb nb capb bs hb hbl hbb hnb
  have HO : Hid (∀ w1 g, Cur w w1 g a n cap → ∀ m : Int, 0 < m → m ≤ 9223372036854775807 → Calls Try.prog 28 #[.pointer (some ⟨g, 0, none⟩), .int .i64 m] w1 fun e w' => ∃ x : Bool, e = .returned (.bool x) ∧ Kept w w1 w' g a n cap) := hO
  have HB : Hid (∀ w1 g, Cur w w1 g a n cap → ∀ m : Int, 0 < m → m ≤ 9223372036854775807 → Calls Try.prog 31 #[.pointer (some ⟨g, 0, none⟩), .int .i64 m] w1 fun e w' => ∃ x, e = .returned (.int .i64 x) ∧ 0 ≤ x ∧ x < m ∧ Kept w w1 w' g a n cap) := hB
  have HS : Hid (∀ w1 g, Cur w w1 g a n cap → ∀ m : Int, 0 ≤ m → m ≤ 100 → Calls Try.prog 23 #[.pointer (some ⟨g, 0, none⟩), .int .i64 m] w1 fun e w' => ∃ v ys, e = .returned v ∧ (ys.length : Int) ≤ m ∧ Mine w' w1.heap.size v ys ∧ Kept w w1 w' g a n cap) := hS
  have HM : Hid (∀ w1 g, Cur w w1 g a n cap → Calls Try.prog 24 #[.pointer (some ⟨g, 0, none⟩)] w1 fun e w' => ∃ x, e = .returned (.int .i64 x) ∧ I64 x ∧ Kept w w1 w' g a n cap) := hM
  have HP : Hid (∀ w1 g, Cur w w1 g a n cap → ∀ (l : List Int) (P : Int → Prop), 0 < l.length → l.length ≤ 1000 → (∀ x ∈ l, P x) → Calls Try.prog 30 #[.pointer (some ⟨g, 0, none⟩), .slice (some ⟨w1.heap.size, 0, none⟩) l.length l.length] (w1.alloc (.cells (l.map (Value.int .i64)).toArray 3)) fun e w' => ∃ x, e = .returned (.int .i64 x) ∧ P x ∧ Kept w w1 w' g a n cap) := hP
  have HZ : Hid (∀ w1 g, Cur w w1 g a n cap → ∀ (gb nb capb : Nat) (bs : List Int), Row w1 gb capb bs → bs.length = nb → Byt bs → nb ≤ 1000 → Calls Try.prog 29 #[.pointer (some ⟨g, 0, none⟩), .slice (some ⟨gb, 0, none⟩) nb capb] w1 fun e w' => ∃ v ys, e = .returned v ∧ ys.length ≤ nb + 1 ∧ Mine w' w1.heap.size v ys ∧ Kept w w1 w' g a n cap) := hZ
  have hN := newT a n cap zs w hr hz hn
  clear hO hB hS hM hP hZ hr hz
  go_enter Try.func11, Try.ntmps11
  go_wp2_with fail
  refine hN.mono ?_
  rintro e w1 ⟨g, rfl, hc, hg⟩
  clear hN
  have hgB : g < w1.heap.size := hc.lt
  have hwB : w.heap.size ≤ w1.heap.size := hg.size
  clear hg
  generalize hB1 : w1.heap.size = B1 at *
  have HB1 : Hid (w1.heap.size = B1) := hB1
  clear hB1
  go_wp2_with fail
  refine (HS.out w1 g hc 4 (by omega) (by omega)).mono ?_
  rintro e w2 ⟨v2, y2, rfl, hy2, hm2, hk2⟩
  rw [HB1.out] at hm2
  have hl2 : y2.length ≤ 4 := by omega
  obtain ⟨a2, c2, rfl⟩ := hm2.form
  have HM2 : Hid (Mine w2 B1 (.slice a2 y2.length c2) y2) := hm2
  have HK2 : Hid (Kept w w1 w2 g a n cap) := hk2
  clear hm2 hk2 hc
  generalize hk2' : y2.length = k2 at *
  have HY2 : Hid (y2.length = k2) := hk2'
  clear hk2'
  go_upto_region 4 with fail
  go_cut [5] (fun s5 wx => ∃ (gb nb cb : Nat) (bs : List Int), s5 = .slice (some ⟨gb, 0, none⟩) nb cb ∧ nb ≤ 12 ∧ Hid (bs.length = nb) ∧ Hid (Byt bs) ∧ B1 ≤ gb ∧ Hid (Row wx gb cb bs) ∧ Hid (cb ≤ maxLen) ∧ Hid (Cur w wx g a n cap))
  case first =>
    go_wp2_with fail
    refine (HM.out w2 g HK2.out.1).mono ?_
    rintro e w3 ⟨x, rfl, hx, hk3⟩
    have hm3 := HM2.out.kept hk3.2 (by intro k hk; cases hk; exact hgB)
    have hP3 := putMine w3 B1 (.slice a2 k2 c2) y2 x hm3 (by have := HY2.out; omega)
    rw [HY2.out] at hP3
    have hc3 := hk3.1
    have hs3 : B1 ≤ w3.heap.size := by have h1 := HK2.out.2.size; have h2 := hk3.2.size; have := HB1.out; omega
    have hnx := numB_len x
    have hbx := numB_byt x
    clear hk3
    generalize hLx : numB x = Lx at *
    clear hLx hx
    go_wp2_with fail
    refine hP3.mono ?_
    rintro e w4 ⟨gp, cp, rfl, hg4, hb4, hrow4, hcp⟩
    clear hP3
    have hc4 := hc3.none hg4
    have hs4 : B1 ≤ w4.heap.size := Nat.le_trans hs3 hg4.size
    have hgp : B1 ≤ gp := Nat.le_trans hs3 hb4
    clear hg4 hb4 hc3
    go_wp2_with fail
    refine (HS.out w4 g hc4 3 (by omega) (by omega)).mono ?_
    rintro e w5 ⟨v5, y5, rfl, hy5, hm5, hk5⟩
    have hrow5 := hrow4.kept hk5.2 (by simp; omega)
    have hc5 := hk5.1
    have hs5 : B1 ≤ w5.heap.size := Nat.le_trans hs4 hk5.2.size
    have hlen4 : (y2 ++ Lx).length = k2 + Lx.length := by rw [List.length_append, HY2.out]
    have hbyt4 : Byt (y2 ++ Lx) := byt_app HM2.out.2 hbx
    generalize hl4 : k2 + Lx.length = l4 at *
    have hl4b : l4 ≤ 9 := by omega
    have HO5 : Hid (w5.ownsRow B1 5 1 (.slice (some ⟨gp, 0, none⟩) l4 cp) l4 (vals (y2 ++ Lx))) := own_row hrow5 hlen4 hgp hcp
    have HR5 : Hid (Row w5 gp cp (y2 ++ Lx)) := hrow5
    have HC5 : Hid (Cur w w5 g a n cap) := hc5
    have HL4 : Hid ((y2 ++ Lx).length = l4) := hlen4
    have HBY : Hid (Byt (y2 ++ Lx)) := hbyt4
    have hb5 := hm5.2
    clear hrow4 hrow5 hc4 hc5 hk5 hlen4 hbyt4 hm3 hl4 hs3 hs4
    rcases hm5.shape with ⟨rfl, rfl⟩ | ⟨g5, c5, rfl, hg5, hrow5, hc5m⟩
    · clear hm5
      go_wp2_with (at_builtin; go_must (refine wpList_append_own_none rfl (.tmp 16) (.tmp 18) 22 rfl B1 5 i0 1 Try.underlying22 hi (.slice (some ⟨gp, 0, none⟩) l4 cp) l4 (vals (y2 ++ Lx)) rfl HO5.out rfl ?_))
      go_meet
      exact ⟨gp, l4, cp, y2 ++ Lx, rfl, by omega, HL4, HBY, hgp, HR5, hcp, HC5⟩
    · generalize hk5' : y5.length = k5 at *
      have HK5 : Hid (y5.length = k5) := hk5'
      have HN5 : Hid ((vals y5).length = k5 * 1) := by show _ = _; simp [vals, hk5']
      have HC5v : Hid (∀ j u, (vals y5)[j]? = some u → w5.cell? ((⟨g5, 0, none⟩ : Addr).add j) = some u) := vals_get (n := k5) hk5' (fun i hi => by have := hrow5.cell i (by omega); simpa using this)
      have HV5 : Hid (∀ v ∈ vals y5, v.oneCell' = true) := vals_one y5
      have E1 : Hid (l4 + k5 ≤ maxLen) := by show _ ≤ _; unfold maxLen; omega
      have E2 : Hid ((l4 + k5) * 1 ≤ 140737488355328) := by show _ ≤ _; omega
      have HS5 : Hid (B1 ≤ w5.heap.size) := hs5
      clear hm5 hrow5 hk5'
      go_wp2_with (at_builtin; go_must (refine wpList_append_own _ rfl (.tmp 16) (.tmp 18) 22 rfl B1 5 i0 (.int .u8 0) 1 1 Try.underlying22 hi hz0 hz1 hz2 rfl (by decide) (.slice (some ⟨gp, 0, none⟩) l4 cp) l4 (vals (y2 ++ Lx)) rfl HO5.out ⟨g5, 0, none⟩ k5 c5 (vals y5) rfl HN5.out HC5v.out HV5.out E1.out E2.out HS5.out ?_); intro v6 w6 hown6 hgrow6 hnil6; obtain ⟨g6, c6, rfl, hg6, hrow6, hlen6, hc6⟩ := row_own (zs := y2 ++ Lx ++ y5) (show w6.ownsRow B1 5 1 v6 (l4 + k5) (vals (y2 ++ Lx ++ y5)) by rw [← vals_app]; exact hown6) (by intro e; have hh := (hnil6.1 e).1; injection hh with h1; cases h1))
      go_meet
      exact ⟨g6, l4 + k5, c6, y2 ++ Lx ++ y5, rfl, by omega, hlen6, byt_app HBY.out hb5, hg6, hrow6, hc6, HC5.out.more hgrow6 hgB (own_lt HO5.out)⟩
  case rest =>
  obtain ⟨gb, nb, cb, bs, rfl, hnb, HBL, HBB, hgb, HRW, HCB, HCU⟩ := hcut
  have hsc : B1 ≤ wc.heap.size := Nat.le_trans hgb (Nat.le_of_lt HRW.out.lt)
  clear HM2 HK2 HY2 HM HS HB1
  go_wp2_with fail
  refine (HO.out wc g HCU.out 3 (by omega) (by omega)).mono ?_
  rintro e w6 ⟨x6, rfl, hk6⟩
  have HR6 : Hid (Row w6 gb cb bs) := HRW.out.kept hk6.2 (by simp; omega)
  have HC6 : Hid (Cur w w6 g a n cap) := hk6.1
  have hs6 : B1 ≤ w6.heap.size := Nat.le_trans hsc hk6.2.size
  clear hk6 HRW HCU hsc
  go_upto_if 21 with fail
  go_cut [5] (fun s5 wx => ∃ ys : List Int, ys.length ≤ 13 ∧ Hid (Mine wx B1 s5 ys) ∧ Hid (Cur w wx g a n cap) ∧ Hid (B1 ≤ wx.heap.size))
  case first =>
    cases x6 with
    | true =>
      go_wp2_with fail
      refine (HZ.out w6 g HC6.out gb nb cb bs HR6.out HBL.out HBB.out (by omega)).mono ?_
      rintro e w7 ⟨v7, y7, rfl, hy7, hm7, hk7⟩
      go_wp2_with fail
      go_meet
      exact ⟨y7, by omega, hm7.mono hs6, hk7.1, Nat.le_trans hs6 hk7.2.size⟩
    | false =>
      go_wp2_with fail
      go_meet
      have M := mine_row HR6.out HBB.out hgb HCB.out
      rw [HBL.out] at M
      exact ⟨bs, by have := HBL.out; omega, M, HC6, hs6⟩
  case rest =>
  obtain ⟨ys, hyl, HMN, HCN, HSN⟩ := hcut
  obtain ⟨av, cv, rfl⟩ := HMN.out.form
  clear HR6 HC6 HBL HBB HCB HZ
  generalize hkk : ys.length = k at *
  have HKK : Hid (ys.length = k) := hkk
  clear hkk
  go_wp2_with fail
  refine (HO.out _ g HCN.out 6 (by omega) (by omega)).mono ?_
  rintro e w8 ⟨x8, rfl, hk8⟩
  have HM8 : Hid (Mine w8 B1 (.slice av k cv) ys) := HMN.out.kept hk8.2 (by intro k hk; cases hk; exact hgB)
  have HC8 : Hid (Cur w w8 g a n cap) := hk8.1
  have HS8 : Hid (B1 ≤ w8.heap.size) := Nat.le_trans HSN.out hk8.2.size
  clear hk8 HMN HCN HSN
  go_upto_if 26 with fail
  go_cut [6] (fun s6 wx => ∃ A : Int, s6 = .int .i64 A ∧ I64 A ∧ Hid (Mine wx B1 (.slice av k cv) ys) ∧ Hid (Cur w wx g a n cap) ∧ Hid (B1 ≤ wx.heap.size))
  case first =>
    cases x8 with
    | true =>
      go_wp2_with fail
      refine (HP.out w8 g HC8.out [-1, 0, (k : Int), (k : Int) + 1, 4611686018427387904] I64 (by simp) (by simp) (by intro x hx; simp at hx; unfold I64; omega)).mono ?_
      rintro e w9 ⟨A, rfl, hA, hk9⟩
      go_wp2_with fail
      go_meet
      exact ⟨A, rfl, hA, HM8.out.kept hk9.2 (by intro k hk; cases hk; exact hgB), hk9.1, Nat.le_trans HS8.out hk9.2.size⟩
    | false =>
      go_wp2_with fail
      go_meet
      exact ⟨_, rfl, ⟨by omega, by omega⟩, HM8, HC8, HS8⟩
  case rest =>
  obtain ⟨A, rfl, hA, HMN, HCN, HSN⟩ := hcut
  clear HM8 HC8 HP HS8
  go_wp2_with fail
  refine (HO.out _ g HCN.out 8 (by omega) (by omega)).mono ?_
  rintro e w10 ⟨x10, rfl, hk10⟩
  have HM10 : Hid (Mine w10 B1 (.slice av k cv) ys) := HMN.out.kept hk10.2 (by intro k hk; cases hk; exact hgB)
  have HC10 : Hid (Cur w w10 g a n cap) := hk10.1
  have HS10 : Hid (B1 ≤ w10.heap.size) := Nat.le_trans HSN.out hk10.2.size
  clear hk10 HMN HCN HO HSN
  go_upto_if 36 with fail
  go_cut [5] (fun s5 wx => ∃ ys : List Int, ys.length ≤ 100 ∧ Hid (Mine wx B1 s5 ys) ∧ Hid (Cur w wx g a n cap))
  case first =>
    cases x10 with
    | true =>
      have HCd : Hid (Cur w w10.drew g a n cap) := HC10.out.none (grown_drew w10 none)
      have HMd : Hid (Mine w10.drew B1 (.slice av k cv) ys) := HM10.out.kept (grown_drew w10 none) (by simp)
      obtain ⟨h2, hh2⟩ : ∃ h2 : Nat, h2 = k / 2 := ⟨_, rfl⟩
      have hq : IntKind.i64.wrap ((k : Int) / 2) = (h2 : Int) := by rw [IntKind.wrap_i64]; omega
      have hh2k : h2 ≤ k := by omega
      have hB11 := HB.out w10.drew g HCd.out 20 (by omega) (by omega)
      have E1 : Hid (h2 + 5 ≤ maxLen) := by show _ ≤ _; unfold maxLen; omega
      have E2 : Hid ((h2 + 5) * 1 ≤ 140737488355328) := by show _ ≤ _; omega
      have hB1w : B1 ≤ w10.heap.size := HS10.out
      have HSZ : Hid (∀ w11, w10.drew.grownBy w11 (some g) → ∀ o, B1 ≤ (w11.alloc o).heap.size) := by
        intro w11 hg o
        have := hg.size
        have h : w10.drew.heap.size = w10.heap.size := rfl
        simp; omega
      clear hh2
      have both : (h2 : Int) ≤ (cv : Int) ∧ ∀ w11, w10.drew.grownBy w11 (some g) → w11.ownsRow B1 5 1 (.slice av h2 cv) h2 (vals (ys.take h2)) := by
        rcases HM10.out.shape with ⟨h, h0⟩ | ⟨g', cap', h, hB, hrow, hcm⟩
        · injection h with h1 h3 h4
          subst h0 h1 h4
          have e : h2 = 0 := by omega
          subst e
          exact ⟨by omega, fun w11 _ => World.ownsRow_nil _ _ _ _⟩
        · injection h with h1 h3 h4
          subst h1 h4
          have hkc : k ≤ cv := by have := hrow.len; have := HKK.out; omega
          have hlt : (ys.take h2).length = h2 := by rw [List.length_take, HKK.out]; omega
          exact ⟨by omega, fun w11 hg => own_row (((hrow.kept (grown_drew w10 none) (by simp)).kept hg (by simp; omega)).take h2) hlt hB hcm⟩
      obtain ⟨hk2c, hOW⟩ := both
      have HOW : Hid (∀ w11, w10.drew.grownBy w11 (some g) → w11.ownsRow B1 5 1 (.slice av h2 cv) h2 (vals (ys.take h2))) := hOW
      have HYB : Hid (Byt (ys.take h2)) := byt_take HM10.out.2 h2
      have HYL : Hid ((ys.take h2).length = h2) := by show _ = _; rw [List.length_take, HKK.out]; omega
      clear hOW
      go_wp2_with fail
      go_region_law (first | (refine step_append_own rfl (.tmp 41) (.tmp 45) 22 rfl B1 5 i0 (.int .u8 0) 1 1 Try.underlying22 hi hz0 hz1 hz2 rfl (by decide) (.slice av h2 cv) h2 (vals (ys.take h2)) rfl (HO11.out.alloc _) ⟨w11.heap.size, 0, none⟩ 5 5 [.int .u8 255, .int .u8 255, .int .u8 255, .int .u8 255, .int .u8 x] rfl rfl (five_new w11 x) (by simp [Value.oneCell']) E1.out E2.out (HS11.out _) ?_; intro v12 w12 hown12 hgrow12 hnil12) | (go_simp; go_at_call 31; refine hB11.mono ?_; rintro e w11 ⟨x, rfl, hx0, hx1, hk11⟩; have hux : IntKind.u8.wrap x = x := u8_id x hx0 hx1; have HO11 : Hid (w11.ownsRow B1 5 1 (.slice av h2 cv) h2 (vals (ys.take h2))) := HOW.out w11 hk11.2; have HS11 : Hid (∀ o, B1 ≤ (w11.alloc o).heap.size) := HSZ.out w11 hk11.2; simp only []))
      go_wp2_with fail
      go_meet
      have hOB := own_lt HO11.out
      have hga := World.grownBy_alloc w11 (.cells #[.int .u8 255, .int .u8 255, .int .u8 255, .int .u8 255, .int .u8 x] 5) none
      have e5 : [Value.int .u8 255, .int .u8 255, .int .u8 255, .int .u8 255, .int .u8 x] = vals [255, 255, 255, 255, x] := rfl
      rw [e5, vals_app] at hown12
      refine ⟨ys.take h2 ++ [255, 255, 255, 255, x], by rw [List.length_append, HYL.out]; simp; omega, ⟨?_, byt_app HYB.out ?_⟩, (hk11.1.none hga).more hgrow12 hgB hOB⟩
      · have e6 : (ys.take h2 ++ [255, 255, 255, 255, x]).length = h2 + 5 := by rw [List.length_append, HYL.out]; rfl
        rw [e6]; exact hown12
      · intro z hz
        simp at hz
        omega
    | false =>
      go_wp2_with fail
      go_meet
      exact ⟨ys, by have := HKK.out; omega, HM10, HC10⟩
  case rest =>
  obtain ⟨zs', hzl, HMN, HCN⟩ := hcut
  clear HM10 HC10 HB
  go_wp2
  go_ret2
  exact ⟨_, zs', A, rfl, hzl, HMN.out.mono hwB, hA, grown_below HCN.out.2.1⟩
end Go.Proofs.Ytjlehmpdfpefdaa.By
