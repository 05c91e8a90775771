/-
  The contract of the specification's DrawGetText, for this seat's proofs. No statement is proved here.
-/
import Derived.Test.YtonmcndedbmbfaaZerosT
import Derived.Deep.DeepCutAuto
namespace Go.Proofs.Ytonmcndedbmbfaa.By
open Go.RowKit
set_option linter.unusedVariables false
set_option linter.unusedSimpArgs false

theorem mine_of {w : World} {B : Nat} {v : Value} {n : Nat} {zs : List Int} (h : w.ownsRow B 5 1 v n (vals zs)) (hz : Byt zs) : Mine w B v zs := by
  have e : n = zs.length := by have := h.1; simp [vals] at this; omega
  subst e; exact ⟨h, hz⟩
theorem textB_len (ts : List Int) (h : ts.length ≤ 40) : (textB ts).length ≤ 45 := by
  rw [textB_fits (by omega), List.length_append]; have := numB_len (ts.length : Int); omega
theorem textB_byt (ts : List Int) (h : Byt ts) : Byt (textB ts) := by
  unfold textB; split
  · intro z hz; simp at hz
  · exact byt_app (numB_byt _) h

set_option maxRecDepth 20000 in
set_option maxHeartbeats 4000000 in
theorem drawGetTextT (a : Option Addr) (n cap : Nat) (zs : List Int) (w : World) (hr : Reads w a n zs) (hz : Byt zs) (hn : n ≤ 9223372036854775807) :
    Calls Try.prog 11 #[.slice a n cap] w fun e w' => ∃ v ys x, e = .returned (.tuple #[v, .int .i64 x]) ∧ ys.length ≤ 100 ∧ Mine w' w.heap.size v ys ∧ I64 x ∧ w.grownBy w' none := by
  have HO : Hid (∀ w1 g, Cur w w1 g a n cap → ∀ m : Int, 0 < m → m ≤ 9223372036854775807 → Calls Try.prog 24 #[.pointer (some ⟨g, 0, none⟩), .int .i64 m] w1 fun e w' => ∃ x : Bool, e = .returned (.bool x) ∧ Kept w w1 w' g a n cap) := fun w1 g hc m hm hm1 => onceT w w1 g a n cap zs hr hz hn hc m hm hm1
  have HS : Hid (∀ w1 g, Cur w w1 g a n cap → ∀ m : Int, 0 ≤ m → m ≤ 100 → Calls Try.prog 25 #[.pointer (some ⟨g, 0, none⟩), .int .i64 m] w1 fun e w' => ∃ v ys, e = .returned v ∧ (ys.length : Int) ≤ m ∧ Mine w' w1.heap.size v ys ∧ Kept w w1 w' g a n cap) := fun w1 g hc m hm hm1 => someT w w1 g a n cap zs hr hz hn hc m hm hm1
  have HP : Hid (∀ w1 g, Cur w w1 g a n cap → ∀ (l : List Int) (P : Int → Prop), 0 < l.length → l.length ≤ 1000 → (∀ x ∈ l, P x) → Calls Try.prog 33 #[.pointer (some ⟨g, 0, none⟩), .slice (some ⟨w1.heap.size, 0, none⟩) l.length l.length] (w1.alloc (.cells (l.map (Value.int .i64)).toArray 3)) fun e w' => ∃ x, e = .returned (.int .i64 x) ∧ P x ∧ Kept w w1 w' g a n cap) := fun w1 g hc l P h0 h1 hI => pickP w w1 g a n cap zs hr hz hn hc l P h0 h1 hI
  have HZ : Hid (∀ w1 g, Cur w w1 g a n cap → ∀ (gb nb capb : Nat) (bs : List Int), Row w1 gb capb bs → bs.length = nb → Byt bs → nb ≤ 1000 → Calls Try.prog 32 #[.pointer (some ⟨g, 0, none⟩), .slice (some ⟨gb, 0, none⟩) nb capb] w1 fun e w' => ∃ v ys, e = .returned v ∧ ys.length ≤ nb + 1 ∧ Mine w' w1.heap.size v ys ∧ Kept w w1 w' g a n cap) := fun w1 g hc gb nb capb bs hb hbl hbb hnb => spoilT w w1 g a n cap zs hr hz hn hc gb nb capb bs hb hbl hbb hnb
  have hN := newT a n cap zs w hr hz hn
  clear hr hz
  go_enter Try.func11, Try.ntmps11
  go_wp2_with fail
  refine hN.mono ?_
  rintro e w1 ⟨g, rfl, hc, hg⟩
  clear hN
  have hgB : g < w1.heap.size := hc.lt
  have HC1 : Hid (Cur w w1 g a n cap) := hc
  have HWB : Hid (w.heap.size ≤ w1.heap.size) := hg.size
  clear hg hc
  simp only []
  go_wp2_with fail
  refine (HS.out w1 g HC1.out 4 (by omega) (by omega)).mono ?_
  rintro e w2 ⟨v5, y5, rfl, hy5, hm5, hk5⟩
  generalize hB1 : w1.heap.size = B1 at *
  have M5 : Hid (Mine w2 B1 v5 y5) := hm5
  have HC2 : Hid (Cur w w2 g a n cap) := hk5.1
  have hs2 : B1 ≤ w2.heap.size := by have := hk5.2.size; omega
  clear hm5 hk5 HC1
  obtain ⟨a5, c5, rfl⟩ := M5.out.form
  generalize hk5' : y5.length = k5 at *
  have HY5 : Hid (y5.length = k5) := hk5'
  clear hk5' hB1
  simp only []
  go_wp2_with fail
  refine (HS.out w2 g HC2.out 9 (by omega) (by omega)).mono ?_
  rintro e w3 ⟨v7, y7, rfl, hy7, hm7, hk7⟩
  have M5 : Hid (Mine w3 B1 (.slice a5 k5 c5) y5) := M5.out.kept hk7.2 (by intro k hk; cases hk; exact hgB)
  have M7 : Hid (Mine w3 B1 v7 y7) := hm7.mono hs2
  have HC3 : Hid (Cur w w3 g a n cap) := hk7.1
  have hs3 : B1 ≤ w3.heap.size := Nat.le_trans hs2 hk7.2.size
  clear hm7 hk7 HC2 hs2
  simp only []
  go_wp2_with fail
  refine (HO.out w3 g HC3.out 9 (by omega) (by omega)).mono ?_
  rintro e w4 ⟨xb, rfl, hk4⟩
  have M54 : Hid (Mine w4 B1 (.slice a5 k5 c5) y5) := M5.out.kept hk4.2 (by intro k hk; cases hk; exact hgB)
  have M74 : Hid (Mine w4 B1 v7 y7) := M7.out.kept hk4.2 (by intro k hk; cases hk; exact hgB)
  have HC4 : Hid (Cur w w4 g a n cap) := hk4.1
  have hs4 : B1 ≤ w4.heap.size := Nat.le_trans hs3 hk4.2.size
  clear hk4 HC3 hs3 M5 M7
  simp only []
  go_upto_if 17 with fail
  go_cut [7] (fun s7 wx => ∃ ts : List Int, ts.length ≤ 40 ∧ Hid (Mine wx B1 s7 ts) ∧ Hid (Mine wx B1 (.slice a5 k5 c5) y5) ∧ Hid (Cur w wx g a n cap) ∧ Hid (B1 ≤ wx.heap.size))
  case first =>
    cases xb with
    | false =>
      go_wp2_with fail
      go_meet
      exact ⟨y7, by omega, M74, M54, HC4, hs4⟩
    | true =>
      have hmk : (Instr.makeSlice 22 (.int .i64 40) (.int .i64 40)).run Try.prog w4 = .ok (.slice (some ⟨w4.heap.size, 0, none⟩) 40 40) (w4.alloc (.cells (vals (List.replicate 40 0)).toArray 5)) := by
        have := make_run 40 (by omega) w4
        rw [made_is] at this
        exact this
      have ga := World.grownBy_alloc w4 (.cells (vals (List.replicate 40 0)).toArray 5) none
      have M6 : Hid (Mine _ B1 _ (List.replicate 40 0)) := mine_made w4 40 B1 hs4 (by omega)
      have M55 : Hid (Mine _ B1 (.slice a5 k5 c5) y5) := M54.out.kept ga (by simp)
      have C5 : Hid (Cur w _ g a n cap) := HC4.out.none ga
      have hs5 : Hid (B1 ≤ _) := Nat.le_trans hs4 ga.size
      have HL : Hid ((List.replicate 40 (0 : Int)).length ≤ 40) := by show _ ≤ _; simp
      generalize List.replicate 40 (0 : Int) = ts at *
      clear ga M74 M54 HC4
      go_wp2_with fail
      go_meet
      exact ⟨ts, HL.out, M6, M55, C5, hs5⟩
  case rest =>
  obtain ⟨ts, hts, MT, MB, HC5, HS5⟩ := hcut
  clear M54 M74 HC4 hs4
  have PT : Hid _ := specPutTextM wc B1 B1 _ _ y5 ts MB.out MT.out (by have := HY5.out; omega) hts
  obtain ⟨a7, c7, rfl⟩ := MT.out.form
  have hTl := textB_len ts hts
  have hTb := textB_byt ts MT.out.2
  generalize textB ts = T at *
  have HTB : Hid (Byt T ∧ Byt y5) := ⟨hTb, MB.out.2⟩
  clear hTb MT MB
  generalize ts.length = kt at *
  go_wp2_with fail
  rw [HY5.out] at PT
  refine Calls.mono PT.out ?_
  rintro e w6 ⟨g6, cp6, rfl, hg6, hb6, hrow6, hcp6⟩
  have R6 : Hid (Row w6 g6 cp6 (y5 ++ T) ∧ cp6 ≤ maxLen) := ⟨hrow6, hcp6⟩
  have HC6 : Hid (Cur w w6 g a n cap) := HC5.out.none hg6
  have hs6 : B1 ≤ w6.heap.size := Nat.le_trans HS5.out hg6.size
  have hg6B : B1 ≤ g6 := Nat.le_trans HS5.out hb6
  clear PT HC5 HS5 hg6 hb6 hrow6 hcp6
  simp only []
  go_wp2_with fail
  refine (HS.out w6 g HC6.out 3 (by omega) (by omega)).mono ?_
  rintro e w7 ⟨v8, y8, rfl, hy8, hm8, hk8⟩
  have hrow7 := R6.out.1.kept hk8.2 (by simp; omega)
  have hl7 : (y5 ++ T).length = k5 + T.length := by rw [List.length_append, HY5.out]
  have hown := own_row hrow7 hl7 hg6B R6.out.2
  obtain ⟨v9, w9, hrun, ho9, hg9, hnn9⟩ := run_appM 22 hown v8 y8 (hm8.mono hs6) (by omega) (by have := hk8.2.size; omega)
  obtain ⟨a8, c8, rfl⟩ := hm8.form
  have HA : Hid _ := hrun
  obtain ⟨g9, cp9, rfl, hb9, hrow9, hlen9, hcp9⟩ := row_own ho9 (hnn9 (by simp))
  have R9 : Hid (Row w9 g9 cp9 (y5 ++ T ++ y8) ∧ cp9 ≤ maxLen ∧ (y5 ++ T ++ y8).length = k5 + T.length + y8.length ∧ Byt (y5 ++ T ++ y8)) := ⟨hrow9, hcp9, hlen9, byt_app (byt_app HTB.out.2 HTB.out.1) hm8.2⟩
  have HC9 : Hid (Cur w w9 g a n cap) := hk8.1.more hg9 hgB (fun k hk => by simp [Value.ownBlock] at hk; omega)
  have hs9 : B1 ≤ w9.heap.size := Nat.le_trans (Nat.le_trans hs6 hk8.2.size) hg9.size
  clear R6 HC6 hs6 hm8 hk8 hrow7 hl7 hown hrun ho9 hg9 hnn9 hrow9 hlen9 hcp9 HTB
  generalize y5 ++ T ++ y8 = bs at *
  generalize hj8 : y8.length = k8 at *
  clear hj8
  generalize T.length = kT at *
  simp only []
  go_wp2_with (at_builtin; go_must (refine Lib.wpList_append_run _ rfl (.tmp 21) (.tmp 23) 22 22 rfl _ _ rfl rfl _ _ HA.out ?_))
  clear HA
  go_wp2_with fail
  refine (HO.out w9 g HC9.out 9 (by omega) (by omega)).mono ?_
  rintro e w10 ⟨xb, rfl, hk10⟩
  have R10 : Hid (Row w10 g9 cp9 bs ∧ cp9 ≤ maxLen ∧ bs.length = k5 + kT + k8 ∧ Byt bs) := ⟨R9.out.1.kept hk10.2 (by simp; omega), R9.out.2⟩
  have HC10 : Hid (Cur w w10 g a n cap) := hk10.1
  have hs10 : B1 ≤ w10.heap.size := Nat.le_trans hs9 hk10.2.size
  clear R9 HC9 hs9 hk10
  simp only []
  go_upto_if 26 with fail
  go_cut [5] (fun s5 wx => ∃ (gb nb cb : Nat) (bs : List Int), s5 = .slice (some ⟨gb, 0, none⟩) nb cb ∧ nb ≤ 60 ∧ Hid (bs.length = nb) ∧ Hid (Byt bs) ∧ B1 ≤ gb ∧ Hid (Row wx gb cb bs) ∧ Hid (cb ≤ maxLen) ∧ Hid (Cur w wx g a n cap))
  case first =>
    cases xb with
    | false =>
      go_wp2_with fail
      go_meet
      exact ⟨g9, k5 + kT + k8, cp9, bs, rfl, by omega, R10.out.2.2.1, R10.out.2.2.2, hb9, R10.out.1, R10.out.2.1, HC10⟩
    | true =>
      have hle9 : bs.length ≤ cp9 := R10.out.1.len
      have hbl := R10.out.2.2.1
      have m10 := mine_row (R10.out.1.take k5) (byt_take R10.out.2.2.2 k5) hb9 R10.out.2.1
      have e5 : (bs.take k5).length = k5 := by simp; omega
      rw [e5] at m10
      have PN := putMine w10 B1 _ (bs.take k5) 41 m10 (by omega)
      rw [e5] at PN
      have hL := numB_len (41 : Int)
      have hLb := numB_byt (41 : Int)
      have HBT : Hid (Byt (bs.take k5)) := m10.2
      generalize bs.take k5 = ds at *
      generalize numB (41 : Int) = L at *
      have HPN : Hid _ := PN
      have i1 : (k5 : Int) ≤ (cp9 : Int) := by omega
      have HLB : Hid (Byt L ∧ ds.length = k5) := ⟨hLb, e5⟩
      clear PN m10 hLb hbl hle9 e5
      go_wp2_with fail
      refine Calls.mono HPN.out ?_
      rintro e w11 ⟨g11, cp11, rfl, hg11, hb11, hrow11, hcp11⟩
      have hl11 : (ds ++ L).length = k5 + L.length := by rw [List.length_append, HLB.out.2]
      obtain ⟨v12, w12, hrun, ho12, hg12, hnn12⟩ := run_zeros 22 hrow11 hl11 (Nat.le_trans hs10 hb11) (Nat.le_trans hs10 hg11.size) hcp11 41 (by omega) (by omega)
      have HA : Hid ((Builtin.append_ #[22, 3] 22 #[.slice (some ⟨g11, 0, none⟩) (k5 + L.length) cp11, .int .i64 41]).run Try.prog w11 = .ok v12 w12) := hrun
      obtain ⟨g12, cp12, rfl, hb12, hrow12, hlen12, hcp12⟩ := row_own ho12 hnn12
      have R12 : Hid (Row w12 g12 cp12 (ds ++ L ++ List.replicate 41 0)) := hrow12
      have L12 : Hid ((ds ++ L ++ List.replicate 41 0).length = k5 + L.length + 41) := hlen12
      have B12 : Hid (Byt (ds ++ L ++ List.replicate 41 0)) := byt_app (byt_app HBT.out HLB.out.1) (byt_zeros 41)
      have HC12 : Hid (Cur w w12 g a n cap) := (HC10.out.none hg11).more hg12 hgB (fun k hk => by cases hk; exact Nat.le_trans hs10 hb11)
      have HCP : Hid (cp12 ≤ maxLen) := hcp12
      generalize ds ++ L ++ List.replicate 41 (0 : Int) = es at *
      clear HPN hg11 hb11 hrow11 hcp11 hl11 hrun ho12 hg12 hnn12 hrow12 hlen12 hcp12 HBT HLB R10 HC10
      simp only []
      go_wp2_with (at_builtin; go_must (refine Lib.wpList_append_run _ rfl (.tmp 30) (.const (.int .i64 41)) 22 3 rfl _ _ rfl rfl _ _ HA.out ?_))
      clear HA
      go_wp2_with fail
      go_meet
      exact ⟨g12, k5 + L.length + 41, cp12, es, rfl, by omega, L12, B12, hb12, R12, HCP, HC12⟩
  case rest =>
  obtain ⟨gb, nb, cb, bs', rfl, hnb, HBL, HBB, hgb, HRW, HCB, HCU⟩ := hcut
  have hsc : B1 ≤ wc.heap.size := Nat.le_trans hgb (Nat.le_of_lt HRW.out.lt)
  clear R10 HC10 hs10
  go_wp2_with fail
  refine (HO.out wc g HCU.out 3 (by omega) (by omega)).mono ?_
  rintro e w16 ⟨x6, rfl, hk6⟩
  have HR6 : Hid (Row w16 gb cb bs') := HRW.out.kept hk6.2 (by simp; omega)
  have HC6 : Hid (Cur w w16 g a n cap) := hk6.1
  have hs6 : B1 ≤ w16.heap.size := Nat.le_trans hsc hk6.2.size
  clear hk6 HRW HCU hsc
  simp only []
  go_upto_if 33 with fail
  go_cut [5] (fun s5 wx => ∃ ys : List Int, ys.length ≤ 61 ∧ Hid (Mine wx B1 s5 ys) ∧ Hid (Cur w wx g a n cap) ∧ Hid (B1 ≤ wx.heap.size))
  case first =>
    cases x6 with
    | true =>
      go_wp2_with fail
      refine (HZ.out w16 g HC6.out gb nb cb bs' HR6.out HBL.out HBB.out (by omega)).mono ?_
      rintro e w17 ⟨v7, y7, rfl, hy7, hm7, hk7⟩
      simp only []
      go_wp2_with fail
      go_meet
      exact ⟨y7, by omega, hm7.mono hs6, hk7.1, Nat.le_trans hs6 hk7.2.size⟩
    | false =>
      go_wp2_with fail
      go_meet
      have M := mine_row HR6.out HBB.out hgb HCB.out
      rw [HBL.out] at M
      exact ⟨bs', by have := HBL.out; omega, M, HC6, hs6⟩
  case rest =>
  obtain ⟨ys, hyl, HMN, HCN, HSN⟩ := hcut
  obtain ⟨av, cv, rfl⟩ := HMN.out.form
  clear HR6 HC6 HBL HBB HCB HZ
  generalize hkk : ys.length = k at *
  have HKK : Hid (ys.length = k) := hkk
  clear hkk
  go_wp2_with fail
  refine (HO.out _ g HCN.out 8 (by omega) (by omega)).mono ?_
  rintro e w18 ⟨x8, rfl, hk8⟩
  have HM8 : Hid (Mine w18 B1 (.slice av k cv) ys) := HMN.out.kept hk8.2 (by intro k hk; cases hk; exact hgB)
  have HC8 : Hid (Cur w w18 g a n cap) := hk8.1
  clear hk8 HMN HCN HSN
  simp only []
  go_upto_if 38 with fail
  go_cut [6] (fun s6 wx => ∃ A : Int, s6 = .int .i64 A ∧ I64 A ∧ Hid (Mine wx B1 (.slice av k cv) ys) ∧ Hid (Cur w wx g a n cap))
  case first =>
    cases x8 with
    | true =>
      go_wp2_with fail
      refine (HP.out w18 g HC8.out [-1, 0, (k : Int), 4611686018427387904] I64 (by simp) (by simp) (by intro x hx; simp at hx; unfold I64; omega)).mono ?_
      rintro e w19 ⟨A, rfl, hA, hk9⟩
      simp only []
      go_wp2_with fail
      go_meet
      exact ⟨A, rfl, hA, HM8.out.kept hk9.2 (by intro k hk; cases hk; exact hgB), hk9.1⟩
    | false =>
      go_wp2_with fail
      go_meet
      exact ⟨_, rfl, ⟨by omega, by omega⟩, HM8, HC8⟩
  case rest =>
  obtain ⟨A, rfl, hA, HMN, HCN⟩ := hcut
  clear HM8 HC8 HP
  go_wp2
  go_ret2
  exact ⟨_, ys, A, rfl, by have := HKK.out; omega, HMN.out.mono HWB.out, hA, grown_below HCN.out.2.1⟩
end Go.Proofs.Ytonmcndedbmbfaa.By
