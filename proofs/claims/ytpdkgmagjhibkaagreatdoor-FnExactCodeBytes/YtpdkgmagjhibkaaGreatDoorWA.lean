/-
  The document's writer of programs: numbers, texts and lists of types behind a row of our own. No statement is proved here.
-/
import Derived.Test.YtpdkgmagjhibkaaGreatDoorRAAlso
import Derived.Test.YtpdkgmagjhibkaaGreatDoorRCAlso
namespace Go.Proofs.YtpdkgmagjhibkaaGreatDoor.By
open Go.RowKit
set_option linter.unusedVariables false
set_option linter.unusedSimpArgs false

theorem run_appR {P : Program} {w : World} (t ty : TypeId) (B : Nat) (i : TypeInfo) (z : Value) (ht : P.underlying t = some (.slice 5)) (hi : P.info? 5 = some i) (hz : i.zero = some z)
    (hsize : i.size = 1) (hby : i.bytes = 1) (hzs : z.cells.size = 1) (v : Value) (n : Nat) (zs : List Int) (hown : w.ownsRow B 5 1 v n (vals zs)) (src : Option Addr) (m c : Nat) (ys : List Int)
    (hr : Reads w src m ys) (hm : n + m ≤ 200000000) (hB : B ≤ w.heap.size) :
    ∃ v' w', (Builtin.append_ #[t, t] ty #[v, .slice src m c]).run P w = .ok v' w' ∧ w'.ownsRow B 5 1 v' (n + m) (vals (zs ++ ys)) ∧ w.grownBy w' v.ownBlock ∧ (v' = .slice none 0 0 ↔ v = .slice none 0 0 ∧ m = 0) := by
  cases src with
  | some ad => exact run_appQ t ty B i z ht hi hz hsize hby hzs v n zs hown (some ad) m c ys hr (fun h => by cases h) hm hB
  | none =>
    obtain ⟨hl, hr⟩ := hr
    obtain rfl : m = 0 := by
      rcases hr with h | ⟨_, _, h, _⟩
      · exact h
      · cases h
    obtain rfl : ys = [] := List.eq_nil_of_length_eq_zero (by omega)
    refine ⟨v, w, ?_, by simpa using hown, World.grownBy.refl _ _, by simp⟩
    rcases hown.2 with ⟨rfl, rfl⟩ | ⟨g, cap, cur, rfl, _, _, hnc, _⟩
    · simp [Builtin.append_, run_underlying ht, sizeOf, typeInfo, hi, Builtin.lenOf, Builtin.firstCells]
    · simp [Builtin.append_, run_underlying ht, sizeOf, typeInfo, hi, Builtin.lenOf, Builtin.firstCells, hnc, storeCells]
theorem wpList_appR {P : Program} {w : World} {ops : Array Oper} {rest : List Oper} {o : Oper} {a : Act} {Q : Exit → Act → World → Prop} (hgd : o.guard = none) (s x : Operand) (t : TypeId)
    (ho : o.op = .call { callee := .builtin .append, args := #[s, x], argTypes := #[t, t] })
    (B : Nat) (i : TypeInfo) (z : Value) (ht : P.underlying t = some (.slice 5)) (hi : P.info? 5 = some i) (hz : i.zero = some z) (hsize : i.size = 1) (hby : i.bytes = 1) (hzs : z.cells.size = 1)
    (v : Value) (n : Nat) (zs : List Int) (hs : a.eval s = v) (hown : w.ownsRow B 5 1 v n (vals zs)) (src : Option Addr) (m c : Nat) (ys : List Int) (hx : a.eval x = .slice src m c) (hr : Reads w src m ys) (hm : n + m ≤ 200000000) (hB : B ≤ w.heap.size)
    (h : ∀ v' w', w'.ownsRow B 5 1 v' (n + m) (vals (zs ++ ys)) → w.grownBy w' v.ownBlock → (v' = .slice none 0 0 ↔ v = .slice none 0 0 ∧ m = 0) → wpList P ops Q rest (a.put o.dst v') w') : wpList P ops Q (o :: rest) a w := by
  refine wpList_plain hgd fun K hK => ?_
  obtain ⟨v', w', hr', h2, h3, h4⟩ := run_appR (P := P) (w := w) t o.type B i z ht hi hz hsize hby hzs v n zs hown src m c ys hr hm hB
  unfold Oper.wp execOp
  simp only [ho, resolve, invoke, builtin, Sem.run_bind, Sem.run_pure, Result.andThen_ok, List.map_toArray, List.map_cons, List.map_nil, hs, hx, hr']
  exact hK _ _ (h v' w' h2 h3 h4)
theorem Acc.size {B : Nat} {w : World} {v : Value} {zs : List Int} (h : Acc B w v zs) : B ≤ w.heap.size := by
  obtain ⟨g, cap, rfl, hB, hr, hm⟩ := h.row
  obtain ⟨cur, hc, -⟩ := hr
  have := lt_of_block hc
  omega

theorem putA (B : Nat) (v : Value) (zs : List Int) (N : Int) (w : World) (h : Acc B w v zs) (hn : zs.length ≤ 100000000) :
    Calls Tryz.prog 45 #[v, .int .i64 N] w fun e u => ∃ v', e = .returned v' ∧ Acc B u v' (zs ++ numB N) ∧ w.grownBy u none := by
  have hB := h.size
  obtain ⟨g, cap, rfl, -, hr, hm⟩ := h.row
  refine Calls.mono (specPutM g zs.length cap zs N w hr rfl hn) ?_
  rintro e u ⟨g', cp, rfl, hg, hgs, hr', hcp⟩
  refine ⟨_, rfl, ?_, hg⟩
  have := Acc.of_row (B := B) hr' (by omega) hcp
  rw [List.length_append] at this
  exact this

set_option maxRecDepth 8000 in
set_option maxHeartbeats 2000000 in
theorem textA (B : Nat) (v : Value) (zs ts : List Int) (a : Option Addr) (m c : Nat) (w : World) (h : Acc B w v zs) (hR : ∀ u, w.grownBy u none → Reads u a m ts) (hn : zs.length ≤ 90000000) (hm : m ≤ 40) :
    Calls Tryz.prog 76 #[v, .slice a m c] w fun e u => ∃ v', e = .returned v' ∧ Acc B u v' (zs ++ textB ts) ∧ w.grownBy u none := by
  obtain ⟨i0, hi, hz0, hz1, hz2⟩ := info_parts info5
  have hl' : ts.length = m := (hR w (World.grownBy.refl _ _)).1
  have hB := h.size
  rw [textB_fits (by omega), hl']
  have hmi : ¬ (m : Int) > 40 := by omega
  obtain ⟨g0, cap, rfl, -, hrw, hcm⟩ := h.row
  have CC : Hid _ := specPutM g0 zs.length cap zs (m : Int) w hrw rfl (by omega)
  have HS : Hid (B ≤ w.heap.size ∧ ∀ u, w.grownBy u none → Reads u a m ts) := ⟨hB, hR⟩
  have hL := numB_len (m : Int)
  have HE : Hid (ts.length = m) := hl'
  clear h hrw hR hl' hB
  generalize hzl : zs.length = zl at *
  have HZ : Hid (zs.length = zl) := hzl
  clear hzl
  go_enter Tryz.func76, Tryz.ntmps76
  go_wp2_with fail
  refine Calls.mono CC.out ?_
  rintro e w1 ⟨g1, c1, rfl, hg1, hb1, hrow1, hc1⟩
  clear CC
  have HO : Hid (w1.ownsRow w.heap.size 5 1 (.slice (some ⟨g1, 0, none⟩) (zl + (numB (m : Int)).length) c1) (zl + (numB (m : Int)).length) (vals (zs ++ numB (m : Int)))) := own_row hrow1 (by rw [List.length_append, HZ.out]) hb1 hc1
  have HRD : Hid (Reads w1 a m ts) := HS.out.2 _ hg1
  have HS1 : Hid (w.heap.size ≤ w1.heap.size) := hg1.size
  have HB1 : Hid (Below w.heap.size w w1) := (Below.refl _ _).grown hg1 (Nat.le_refl _) (by simp)
  have HM : Hid (zl + (numB (m : Int)).length + m ≤ 200000000) := by show _ ≤ _; omega
  have HQ : Hid (zl + (numB (m : Int)).length = (zs ++ numB (m : Int)).length) := by show _ = _; rw [List.length_append, HZ.out]
  clear hg1 hb1 hrow1 hc1 hL
  generalize zl + (numB (m : Int)).length = zl2 at *
  go_wp2_with (at_builtin; go_must (refine wpList_appR rfl (.tmp 14) (.tmp 15) 36 rfl w.heap.size i0 (.int .u8 0) Tryz.underlying36 hi hz0 hz1 hz2 rfl (.slice (some ⟨g1, 0, none⟩) zl2 c1) zl2 (zs ++ numB (m : Int)) rfl HO.out a m c ts rfl HRD.out HM.out HS1.out ?_); intro v2 w2 hown2 hgrow2 hnil2)
  go_ret
  have hb := HB1.out.grown hgrow2 HS1.out (own_lt HO.out)
  refine ⟨v2, rfl, ⟨?_, by intro e; have hh := (hnil2.1 e).1; injection hh with h1; cases h1⟩, grown_of_below hb⟩
  have e1 : zs ++ (numB (m : Int) ++ ts) = zs ++ numB (m : Int) ++ ts := by simp
  have e2 : zl2 + m = (zs ++ numB (m : Int) ++ ts).length := by rw [List.length_append (bs := ts), ← HQ.out, HE.out]
  rw [e1, ← e2]
  exact ⟨hown2.1, hown2.2.imp id (fun ⟨g, cap, cur, e, hb', r⟩ => ⟨g, cap, cur, e, Nat.le_trans HS.out.1 hb', r⟩)⟩

theorem lwF_cons2 {M : Nat} {k n : Int} {d r : F} (h : lwF M (.cons k n d r) = true) : okT k n d = true ∧ lwF M r = true := by
  rw [lwF_cons', Bool.and_eq_true] at h
  have h1 := h.1
  unfold lwT at h1
  rw [Bool.and_eq_true] at h1
  exact ⟨h1.1, h.2⟩

set_option maxRecDepth 8000 in
set_option maxHeartbeats 2000000 in
theorem l8tysT (W0 : World) (M : Nat) (d : F) (a : Option Addr) (l c : Nat) (v : Value) (zs : List Int) (w : World) (h : SlF W0 a l d) (hb : Below W0.heap.size W0 w) (hA : Acc W0.heap.size w v zs) (hok : lwF M d = true) (hlen : zs.length + 5 + 11 * d.size ≤ 90000000) :
    Calls Tryz.prog 46 #[v, .slice a l c] w fun e u => ∃ v', e = .returned v' ∧ Acc W0.heap.size u v' (zs ++ (numB (d.len : Int) ++ bytesF d)) ∧ Fr W0.heap.size w u := by
  have hfl := h.1
  have hl := h.2.1
  have hB := hA.size
  have CC : Hid _ := putA W0.heap.size v zs (l : Int) w hA (by omega)
  have h5 := numB_len (l : Int)
  have HS : Hid (SlF W0 a l d ∧ Below W0.heap.size W0 w) := ⟨h, hb⟩
  clear h hb hA
  go_enter Tryz.func46, Tryz.ntmps46
  go_wp2_with fail
  refine Calls.mono CC.out ?_
  rintro e w1 ⟨v1, rfl, hA1, hg1⟩
  have AL : Hid (Acc W0.heap.size w1 v1 (zs ++ numB (l : Int)) ∧ Fr W0.heap.size w w1) := ⟨hA1, Fr.grown hg1 hB⟩
  clear CC hA1 hg1
  simp only []
  rcases HS.out.1.cases with ⟨rfl, rfl⟩ | ⟨b, o, rfl, hin, -, hpos⟩
  · have FIN : Hid (Acc W0.heap.size w1 v1 (zs ++ (numB ((F.nil).len : Int) ++ bytesF .nil))) := by
      show Acc _ _ _ _
      have e : zs ++ (numB ((F.nil).len : Int) ++ bytesF .nil) = zs ++ numB ((0 : Nat) : Int) := by simp [bytesF, F.len]
      rw [e]; exact AL.out.1
    go_wp2
    refine wp_loop_rounds 1 ?_
    rw [rounds_succ]
    go_wp2
    go_ret
    exact ⟨_, rfl, FIN.out, AL.out.2⟩
  have IN : Hid (InF W0 d b o) := hin
  have HB : Hid (Below W0.heap.size W0 w) := HS.out.2
  clear hin HS
  go_wp2
  go_loopw [0, 5] (fun v i wr => ∃ (j : Nat) (R : F) (pre : List Int), j ≤ l ∧ i = .int .i64 j ∧ R.len + j = l ∧ Hid (InF W0 R b (o + j * 3)) ∧ Hid (Acc W0.heap.size wr v (zs ++ pre)) ∧ Hid (pre ++ bytesF R = numB (d.len : Int) ++ bytesF d) ∧ Hid (Fr W0.heap.size w wr) ∧ Hid (zs.length + pre.length + 11 * R.size ≤ 90000000) ∧ Hid (lwF M R = true)) (fun _ i _ => l - (intOf i).toNat)
  case atStart => exact ⟨0, d, numB (l : Int), Nat.zero_le _, rfl, by omega, by simpa using IN, AL.out.1, by show _ = _; rw [hfl], AL.out.2, by show _ ≤ _; omega, hok⟩
  case round =>
    clear AL
    obtain ⟨j, R, pre, hj, rfl, hRl, hR, hA, hP, hFr, hN, hokR⟩ := hrel
    by_cases hlt : j < l
    · obtain ⟨q1, hq1⟩ : ∃ q, R.len = q + 1 := ⟨R.len - 1, by omega⟩
      obtain ⟨kk, nn, d', R', rfl, hR'⟩ := F.cons_of_len hq1
      have hbw := HB.out.trans hFr.out.below
      obtain ⟨a', l', c', -, -, -, hd, hR2⟩ := hR.out.out
      obtain ⟨a2, l2, c2, z0, z1, z2, hd2, -⟩ := (hR.out.below hbw).out
      obtain ⟨hokT, hokr⟩ := lwF_cons2 hokR.out
      have e3 : o + j * 3 + 3 = o + (j + 1) * 3 := by omega
      rw [e3] at hR2
      have hNN := hN.out
      simp only [F.size] at hNN
      obtain ⟨a3, l3, c3, w0', w1', w2', hd3, -⟩ := hR.out.out
      have hlt0 := block_lt_of_cell w2'
      have e5 := (hbw.cell (p := ⟨b, o + j * 3 + 2, none⟩) hlt0).trans w2'
      rw [z2] at e5
      injection e5 with e5
      injection e5 with e6 e7 e8
      subst e6 e7 e8
      simp only [okT, Bool.and_eq_true, decide_eq_true_eq] at hokT
      have CC : Hid _ := l3bytesT W0 (d'.size + 1) d' kk nn a2 l2 c2 u0 (zs ++ pre) wr 9 (by omega) hd3 hbw (by have := hA.out.1; exact this) (by rw [← hd3.1]; exact hokT.1.1) hokT.1.2 (by rw [List.length_append]; omega)
      have FX : Hid (InF W0 R' b (o + (j + 1) * 3) ∧ lwF M R' = true ∧ zs.length + (pre ++ tyB kk nn d').length + 11 * R'.size ≤ 90000000 ∧ (pre ++ tyB kk nn d') ++ bytesF R' = numB (d.len : Int) ++ bytesF d) := by
        refine ⟨hR2, hokr, ?_, ?_⟩
        · have h1 := headB_len kk nn d'.len
          have h2 := bytesF_len d'
          rw [List.length_append, tyB, List.length_append]; omega
        · rw [← hP.out, bytesF, tyB]; simp only [List.append_assoc]
      clear hR hR2 hd hd2 hd3 hP hbw hokT hokr w0' w1' w2' hN hNN hokR IN
      go_wp2_with fail
      refine Calls.mono CC.out ?_
      rintro e u ⟨v', rfl, hA2, hF2⟩
      have AC : Hid (Acc W0.heap.size u v' (zs ++ (pre ++ tyB kk nn d'))) := by show Acc _ _ _ _; rw [← List.append_assoc]; exact hA2
      have FR : Hid (Fr W0.heap.size w u) := hFr.out.trans hF2
      clear hA2 hF2 CC z0 z1 z2 hFr hA
      simp only []
      go_wp2
      go_roundw
      case rel => exact ⟨j + 1, R', pre ++ tyB kk nn d', by omega, by go_num, by omega, FX.out.1, AC, FX.out.2.2.2, FR, FX.out.2.2.1, FX.out.2.1⟩
      case measure => simp [intOf]; omega
    · obtain rfl : j = l := by omega
      obtain rfl : R = .nil := F.nil_of_len (by omega)
      have FIN : Hid (Acc W0.heap.size wr u0 (zs ++ (numB (d.len : Int) ++ bytesF d))) := by
        show Acc _ _ _ _
        have e := hP.out
        simp only [bytesF, List.append_nil] at e
        rw [← e]; exact hA.out
      clear hP hA
      go_wp2
      go_ret
      exact ⟨_, rfl, FIN.out, hFr.out⟩

end Go.Proofs.YtpdkgmagjhibkaaGreatDoor.By
