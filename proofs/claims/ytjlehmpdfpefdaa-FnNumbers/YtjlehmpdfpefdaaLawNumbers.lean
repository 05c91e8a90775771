/-
  The walk of the law FnNumbers. The statement is proved in the text that imports this one.
-/
import Derived.Test.YtjlehmpdfpefdaaDrawG
import Derived.Test.YtjlehmpdfpefdaaSame
import Derived.Test.YtjlehmpdfpefdaaMath
import Derived.Test.YtjlehmpdfpefdaaPutJ
import Derived.Test.YtjlehmpdfpefdaaGetI
namespace Go.Proofs.Ytjlehmpdfpefdaa.By
open Go.RowKit
set_option linter.unusedVariables false

theorem Reads.take {w : World} {a : Option Addr} {n : Nat} {zs : List Int} (h : Reads w a n zs) (i : Nat) (hi : i ≤ n) : Reads w a i (zs.take i) := by
  obtain ⟨hl, h⟩ := h
  refine ⟨by rw [List.length_take]; omega, ?_⟩
  rcases h with h | ⟨b, off, rfl, hc⟩
  · exact .inl (by omega)
  · refine .inr ⟨b, off, rfl, fun j hj => ?_⟩
    rw [List.getD_eq_getElem?_getD, List.getElem?_take_of_lt hj, ← List.getD_eq_getElem?_getD]
    exact hc j (by omega)
theorem Mine.open' {w : World} {B : Nat} {v : Value} {ys : List Int} (h : Mine w B v ys) : ∃ a c, v = .slice a ys.length c ∧ Reads w a ys.length ys ∧ Plain a ∧ ys.length ≤ c := by
  rcases h.shape with ⟨h', rfl⟩ | ⟨g, cap, h', hB, hrow, hm⟩
  · exact ⟨none, 0, h', ⟨rfl, .inl rfl⟩, .inl rfl, Nat.le_refl _⟩
  · exact ⟨_, _, h', hrow.reads, .inr ⟨_, _, rfl⟩, hrow.len⟩
theorem row_pos {w : World} {B n : Nat} {v : Value} {zs : List Int} (h : w.ownsRow B 5 1 v n (vals zs)) (hn : 0 < n) : ∃ g cap, v = .slice (some ⟨g, 0, none⟩) n cap ∧ B ≤ g ∧ Row w g cap zs ∧ zs.length = n ∧ cap ≤ maxLen := by
  refine row_own h ?_
  intro e
  rcases h.2 with ⟨_, h0⟩ | ⟨g, cap, cur, h', _⟩
  · omega
  · rw [h'] at e; injection e with h1; cases h1
/-- One operation of a region that draws is taken first; its slot is written out. -/
theorem take_at {P : Program} {md : Region.Mode} {ops : Array Oper} {Q : Exit → Act → World → Prop} {i d : Nat} {oi : Oper} {v : Value} {fuel : Nat} {listed : Array Bool} {a : Act} {w : World} (hi : ops[i]? = some oi) (hd : oi.dst = some d)
    (hs : Region.noSelect ops = true) (hf : Region.free md ops listed i = true) (hr : (Region.ready md ops listed).contains i = true)
    (hQ : ∀ c a w, Q (.panic c) (a.put (some d) v) w → Q (.panic c) a w) (hy : Yields P ops oi v a)
    (h : wpAny P md ops Q fuel (listed.setIfInBounds i true) (a.put (some d) v) w) : wpAny P md ops Q (fuel + 1) listed a w := by
  rw [← hd] at hQ h
  exact wpAny_take hi hs hf hr hQ hy h
theorem numB_pos {N : Int} (h0 : 0 ≤ N) (h1 : N ≤ 2147483647) : 0 < (numB N).length := by
  rw [numB_in h0 h1]
  by_cases h : N.toNat ≤ 127
  · rw [putB_small h]; simp
  · rw [putB_more (by omega)]; simp

set_option maxRecDepth 20000 in
set_option maxHeartbeats 1000000 in
theorem lawNumbers (a : Option Addr) (n cap : Nat) (zs : List Int) (w : World) (hr : Reads w a n zs) (hz : Byt zs) (hn : n ≤ 9223372036854775807) :
    Calls Try.prog 3 #[.slice a n cap] w fun e w' => e = .returned (.bool true) ∧ Below w.heap.size w w' := by
  obtain ⟨i0, hi, hz0, hz1, hz2⟩ := info_parts info5
  have hF := drawPutNumT a n cap zs w hr hz hn
  have hU := fun w1 h => drawGetNumT a n cap zs w1 h hz hn
  have HU : Hid (∀ w1, Reads w1 a n zs → Calls Try.prog 11 #[.slice a n cap] w1 fun e w' => ∃ v ys x, e = .returned (.tuple #[v, .int .i64 x]) ∧ ys.length ≤ 100 ∧ Mine w' w1.heap.size v ys ∧ I64 x ∧ w1.grownBy w' none) := hU
  have HR : Hid (Reads w a n zs) := hr
  clear hU hz hr
  go_enter Try.func3, Try.ntmps3
  go_wp2_with fail
  refine hF.mono ?_
  rintro e w1 ⟨v1, ys, N, rfl, hyl, hm1, hN, hg1⟩
  clear hF
  obtain ⟨a1, c1, rfl, hrd1, hpl1, hle1⟩ := hm1.open'
  have hby1 := hm1.2
  clear hm1
  generalize hk1 : ys.length = k1 at *
  have HK1 : Hid (ys.length = k1) := hk1
  have hP := implPut a1 k1 c1 ys N w1 hrd1 (by omega)
  have hnl := numB_len N
  have hnb := numB_byt N
  go_wp2_with fail
  refine hP.mono ?_
  rintro e w2 ⟨gx, rfl, hg2, hb2, hrow2⟩
  clear hP
  generalize hlx : k1 + (numB N).length = lx at *
  have hlx9 : lx ≤ 20 := by omega
  have HOC : Hid (∀ o, ∀ b, some (⟨gx, 0, none⟩ : Addr) = some b → ∀ j u, (vals (ys ++ numB N))[j]? = some u → (w2.alloc o).cell? (b.add j) = some u) := by
    intro o b hb
    cases hb
    have h2 := hrow2.kept (World.grownBy_alloc w2 o none) (by simp)
    exact vals_get (n := (ys ++ numB N).length) rfl (fun i hi => by have := h2.cell i hi; simpa using this)
  have HOL : Hid ((vals (ys ++ numB N)).length = lx * 1) := by show _ = _; simp [vals, hk1]; omega
  have HROW2 : Hid (Row w2 gx lx (ys ++ numB N)) := hrow2
  have HG12 : Hid (w.grownBy w2 none) := grown_trans hg1 hg2
  have HRD2 : Hid (Reads w2 a1 k1 ys) := hrd1.none hg2
  have E1 : Hid (lx + 1 ≤ maxLen) := by show _ ≤ _; unfold maxLen; omega
  have E2 : Hid ((lx + 1) * 1 ≤ 140737488355328) := by show _ ≤ _; omega
  have HLX : Hid (k1 + (numB N).length = lx) := hlx
  have hs12 : w.heap.size ≤ w1.heap.size := hg1.size
  clear hrow2 hrd1 hg1 hg2 hk1 hlx
  go_wp2_with (at_builtin; go_must (refine wpList_append_grows _ rfl (.tmp 21) (.tmp 22) 22 rfl 5 i0 (.int .u8 0) 1 1 Try.underlying22 hi hz0 hz1 hz2 rfl (by decide) (some ⟨gx, 0, none⟩) lx lx (vals (ys ++ numB N)) rfl (by simp) HOL.out (HOC.out _) ⟨w2.heap.size, 0, none⟩ 1 1 [.int .u8 7] rfl rfl (cell_one_new _ _ _) (by simp [Value.oneCell']) (by omega) E1.out E2.out ?_); intro v3 w3 hown3 hgrow3; obtain ⟨g3, c3, rfl, hg3, hrow3, hlen3, hc3⟩ := row_pos (own_step hown3) (by omega))
  have hga := World.grownBy_alloc w2 (.cells #[.int .u8 7] 5) none
  have hg23 := grown_trans hga hgrow3
  have HG3 : Hid (w.grownBy w3 none) := grown_trans HG12.out hg23
  have HROW3 : Hid (Row w3 gx lx (ys ++ numB N)) := HROW2.out.kept hg23 (by simp)
  have HRD3 : Hid (Reads w3 a1 k1 ys) := HRD2.out.none hg23
  have hGN := implGet (some ⟨g3, 0, none⟩) (lx + 1) c3 (ys ++ numB N ++ [7]) (k1 : Int) w3 (hrow3.reads' hlen3) (byt_app (byt_app hby1 hnb) (by intro z hz; simp at hz; omega)) (by omega) (by omega)
  by_cases hin : 0 ≤ N ∧ N ≤ 2147483647
  · obtain ⟨hN0, hN1⟩ := hin
    have hbk := back ys [7] N hN0 hN1 hnl
    have hps := numB_pos hN0 hN1
    rw [HK1.out] at hbk
    rw [hbk] at hGN
    have hlx' : ((k1 : Int) + (numB N).length) = (lx : Int) := by have := HLX.out; omega
    simp only [hlx'] at hGN
    have hkl : (k1 : Int) < (lx : Int) := by have := HLX.out; omega
    clear hbk hlx' hga hg23 hgrow3 hown3 hrow3 HROW2 HRD2 HOC HOL HG12 hnb
    refine hGN.mono ?_
    rintro e w4 ⟨rfl, hq4⟩
    have HG4 : Hid (w.grownBy w4 none) := grown_trans HG3.out (quiet hq4)
    clear hq4 hGN HROW3 HRD3 HG3 hlen3 hps hnl
    go_wp2_with fail
    refine (HU.out w4 (HR.out.none HG4.out)).mono ?_
    rintro e w5 ⟨v5, y5, A, rfl, hyl5, hm5, hA, hg5⟩
    obtain ⟨a5, c5, rfl, hrd5, hpl5, hle5⟩ := hm5.open'
    have hby5 := hm5.2
    have hG6 := implGet a5 y5.length c5 y5 A w5 hrd5 hby5 (by omega) hA.2
    have HG5 : Hid (w.grownBy w5 none) := grown_trans HG4.out hg5
    have HRD5 : Hid (Reads w5 a5 y5.length y5) := hrd5
    have HPL5 : Hid (Plain a5) := hpl5
    obtain ⟨k, e, hke⟩ : ∃ k e, getNum y5 A = (k, e) := ⟨_, _, rfl⟩
    have hbd := getNum_bounds y5 hby5 A
    rw [hke] at hG6 hbd
    clear HU HR hg5 HG4 hm5
    generalize hk5 : y5.length = k5 at *
    have HK5 : Hid (y5.length = k5) := hk5
    clear hk5
    go_upto_region 9 with fail
    go_cut [10, 11] (fun s10 s11 wx => s10 = .int .i64 k ∧ s11 = .int .i64 e ∧ Hid (w5.grownBy wx none))
    case first =>
      go_wp2_with fail
      refine hG6.mono ?_
      rintro ee w6 ⟨rfl, hq6⟩
      go_wp2_with fail
      go_meet
      exact ⟨rfl, rfl, quiet hq6⟩
    case rest =>
    obtain ⟨rfl, rfl, HG6⟩ := hcut
    have hg6 := HG6.out
    clear hG6 HG6
    by_cases he : e < 0
    · have hem : e = -1 := by
        rcases hbd with h | h
        · exact (Prod.mk.inj h).2
        · exact absurd h.2.1 (by show ¬ (0 : Int) ≤ e; omega)
      subst hem
      clear hbd hke
      go_wp2_with fail
      go_quiet (fail)
      go_wp2
      go_ret
      exact ⟨rfl, below_drewN ((Below.refl _ _).grown (grown_trans HG5.out hg6) (Nat.le_refl _) (by simp)) _⟩
    · obtain ⟨P, E, rfl, rfl, hPE, hEl, hk0, hkm, htk⟩ := just y5 hby5 A k e hke (by omega)
      have hgd : decide ((E : Int) < 0) = false := decide_eq_false (by omega)
      have hPc : (P : Int) ≤ (c5 : Int) := by have := HK5.out; omega
      have hEc : (E : Int) ≤ (c5 : Int) := by have := HK5.out; omega
      have hrd6 := (HRD5.out.none hg6).none (grown_drew wc none)
      have hPut := implPut a5 P c5 (y5.take P) k wc.drew (hrd6.take P (by have := HK5.out; omega)) (by have := HK5.out; omega)
      have hlE : P + (numB k).length = E := by
        have h1 := congrArg List.length htk
        rw [List.length_append, List.length_take, List.length_take] at h1
        omega
      rw [hlE, ← htk] at hPut
      have HSM : Hid (∀ w7 g7, wc.drew.grownBy w7 none → Row w7 g7 E (y5.take E) → Calls Try.prog 10 #[.slice (some ⟨g7, 0, none⟩) E E, .slice a5 E c5] w7 fun e w' => e = .returned (.bool true) ∧ w' = w7) := by
        intro w7 g7 hg hrow
        exact sameT _ _ E E c5 (y5.take E) w7 (hrow.reads' (by rw [List.length_take]; omega)) ((hrd6.none hg).take E (by have := HK5.out; omega)) (.inr ⟨_, _, rfl⟩) HPL5.out
      have HB6 : Hid (∀ w7, wc.drew.grownBy w7 none → Below w.heap.size w w7) := by
        intro w7 hg
        exact (Below.refl _ _).grown (grown_trans (grown_trans (grown_trans HG5.out hg6) (grown_drew wc none)) hg) (Nat.le_refl _) (by simp)
      clear hbd hke hrd6 htk hlE HRD5 HG5 hg6 hby5 HPL5 hpl5
      go_wp2_with fail
      refine wp_region_any (by kernel_rfl) ?_
      change wpAny _ _ _ _ _ _ _ (World.drew _)
      refine take_at (i := 0) (d := 65) (v := .int .i64 E) rfl rfl (by kernel_rfl) (by kernel_rfl) (by kernel_rfl) (fun _ _ _ h => h) (Or.inl ⟨by rfl, by intro w; go_simp⟩) ?_
      simp only [Act.put, List.setIfInBounds_toArray, List.set_cons_succ, List.set_cons_zero]
      refine take_at (i := 1) (d := 66) (v := .bool false) rfl rfl (by kernel_rfl) (by kernel_rfl) (by kernel_rfl) (fun _ _ _ h => h) (Or.inl ⟨by rfl, by intro w; go_simp⟩) ?_
      simp only [Act.put, List.setIfInBounds_toArray, List.set_cons_succ, List.set_cons_zero]
      refine take_at (i := 2) (d := 67) (v := .bool false) rfl rfl (by kernel_rfl) (by kernel_rfl) (by kernel_rfl) (fun _ _ _ h => h) (Or.inl ⟨by rfl, by intro w; go_simp⟩) ?_
      simp only [Act.put, List.setIfInBounds_toArray, List.set_cons_succ, List.set_cons_zero]
      refine take_at (i := 3) (d := 68) (v := .slice a5 k5 c5) rfl rfl (by kernel_rfl) (by kernel_rfl) (by kernel_rfl) (fun _ _ _ h => h) (Or.inl ⟨by rfl, by intro w; go_simp⟩) ?_
      simp only [Act.put, List.setIfInBounds_toArray, List.set_cons_succ, List.set_cons_zero]
      refine take_at (i := 4) (d := 69) (v := .int .i64 P) rfl rfl (by kernel_rfl) (by kernel_rfl) (by kernel_rfl) (fun _ _ _ h => h) (Or.inl ⟨by rfl, by intro w; go_simp⟩) ?_
      simp only [Act.put, List.setIfInBounds_toArray, List.set_cons_succ, List.set_cons_zero]
      refine take_at (i := 5) (d := 70) (v := .slice a5 P c5) rfl rfl (by kernel_rfl) (by kernel_rfl) (by kernel_rfl) (fun _ _ _ h => h) (Or.inl ⟨by rfl, by intro w; go_simp⟩) ?_
      simp only [Act.put, List.setIfInBounds_toArray, List.set_cons_succ, List.set_cons_zero]
      refine take_at (i := 6) (d := 71) (v := .int .i64 k) rfl rfl (by kernel_rfl) (by kernel_rfl) (by kernel_rfl) (fun _ _ _ h => h) (Or.inl ⟨by rfl, by intro w; go_simp⟩) ?_
      simp only [Act.put, List.setIfInBounds_toArray, List.set_cons_succ, List.set_cons_zero]
      refine take_at (i := 8) (d := 73) (v := .slice a5 k5 c5) rfl rfl (by kernel_rfl) (by kernel_rfl) (by kernel_rfl) (fun _ _ _ h => h) (Or.inl ⟨by rfl, by intro w; go_simp⟩) ?_
      simp only [Act.put, List.setIfInBounds_toArray, List.set_cons_succ, List.set_cons_zero]
      refine take_at (i := 9) (d := 74) (v := .int .i64 E) rfl rfl (by kernel_rfl) (by kernel_rfl) (by kernel_rfl) (fun _ _ _ h => h) (Or.inl ⟨by rfl, by intro w; go_simp⟩) ?_
      simp only [Act.put, List.setIfInBounds_toArray, List.set_cons_succ, List.set_cons_zero]
      refine take_at (i := 10) (d := 75) (v := .slice a5 E c5) rfl rfl (by kernel_rfl) (by kernel_rfl) (by kernel_rfl) (fun _ _ _ h => h) (Or.inl ⟨by rfl, by intro w; go_simp⟩) ?_
      simp only [Act.put, List.setIfInBounds_toArray, List.set_cons_succ, List.set_cons_zero]
      refine wpAny_ready (rs := [7]) (by kernel_rfl) (by simp) ?_
      refine AllReady.cons rfl (fun K hK => ?_) AllReady.nil
      go_simp
      refine hPut.mono ?_
      rintro e w7 ⟨g7, rfl, hg7, hb7, hrow7⟩
      refine hK _ _ ?_
      clear hK K
      refine wpAny_ready (rs := [11]) (by kernel_rfl) (by simp) ?_
      refine AllReady.cons rfl (fun K hK => ?_) AllReady.nil
      go_simp
      refine (HSM.out w7 g7 hg7 hrow7).mono ?_
      rintro e w8 ⟨rfl, rfl⟩
      refine hK _ _ ?_
      clear hK K
      refine take_at (i := 12) (d := 77) (v := .bool true) rfl rfl (by kernel_rfl) (by kernel_rfl) (by kernel_rfl) (fun _ _ _ h => h) (Or.inl ⟨by rfl, by intro w; go_simp⟩) ?_
      simp only [Act.put, List.setIfInBounds_toArray, List.set_cons_succ, List.set_cons_zero]
      refine take_at (i := 13) (d := 2) (v := .bool true) rfl rfl (by kernel_rfl) (by kernel_rfl) (by kernel_rfl) (fun _ _ _ h => h) (Or.inl ⟨by rfl, by intro w; go_simp⟩) ?_
      simp only [Act.put, List.setIfInBounds_toArray, List.set_cons_succ, List.set_cons_zero]
      refine wpAny_done (by kernel_rfl) ?_ _
      go_wp2
      go_ret
      exact ⟨rfl, HB6.out _ hg7⟩
  · have hnil : numB N = [] := numB_out (by omega)
    have hlk : lx = k1 := by have := HLX.out; rw [hnil] at this; simpa using this.symm
    have hrow4 : Row w3 gx lx ys := by have := HROW3.out; rwa [hnil, List.append_nil] at this
    have HR3 : Hid (Reads w3 (some ⟨gx, 0, none⟩) lx ys) := hrow4.reads' (by rw [HK1.out, hlk])
    have HRD : Hid (Reads w3 a1 lx ys) := by rw [hlk]; exact HRD3.out
    generalize getNum (ys ++ numB N ++ [7]) (k1 : Int) = rr at hGN
    obtain ⟨r1, r2⟩ := rr
    subst hlk
    clear hga hg23 hgrow3 hown3 hrow3 HROW2 HRD2 HOC HOL HG12 hnb hnil hrow4 HROW3 HRD3 HLX HU HR
    refine hGN.mono ?_
    rintro e w4 ⟨rfl, hq4⟩
    have hg4 := quiet hq4
    have HG4 : Hid (w.grownBy w4 none) := grown_trans HG3.out hg4
    have hS := sameT (some ⟨gx, 0, none⟩) a1 lx lx c1 ys w4 (HR3.out.none hg4) (HRD.out.none hg4) (.inr ⟨_, _, rfl⟩) hpl1
    clear hq4 hGN HG3 hg4 HR3 HRD
    rcases (show N < 0 ∨ 2147483647 < N by omega) with hN1 | hN1
    all_goals
      go_wp2_with fail
      refine hS.mono ?_
      rintro e w5 ⟨rfl, rfl⟩
      go_wp2
      go_ret
      exact ⟨rfl, (Below.refl _ _).grown HG4.out (Nat.le_refl _) (by simp)⟩
end Go.Proofs.Ytjlehmpdfpefdaa.By
