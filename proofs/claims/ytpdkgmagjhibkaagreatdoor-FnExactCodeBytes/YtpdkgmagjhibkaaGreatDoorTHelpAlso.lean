/-
  Several texts in one (GI, EOb, THelp). No statement is proved here.
-/
import Derived.Test.YtpdkgmagjhibkaaGreatDoorHBaseAlso
import Derived.Test.YtpdkgmagjhibkaaGreatDoorEBAlso
import Derived.Test.YtpdkgmagjhibkaaGreatDoorRows
import Derived.WalkKit
import Derived.ProofKit
import Derived.WalkSpells
import Derived.RegionTactic
import Derived.Deep.QuietTactic
import Derived.BigQuiet
import Derived.Deep.RegionWith
import Derived.Handy
namespace Go.Proofs.YtpdkgmagjhibkaaGreatDoor.By
open Go.RowKit
set_option linter.unusedVariables false

/-- A row of whole numbers that is read. -/
def RdI (w : World) (a : Option Addr) (n : Nat) (zs : List Int) : Prop := ReadsI w a n zs ∧ n ≤ 9223372036854775807
theorem RdI.le {w u : World} {a : Option Addr} {n : Nat} {zs : List Int} (h : RdI w a n zs) (k : CLe w u) : RdI u a n zs := by
  obtain ⟨⟨h1, h2⟩, h3⟩ := h
  refine ⟨⟨h1, ?_⟩, h3⟩
  rcases h2 with h2 | ⟨b, o, e, h2⟩
  · exact .inl h2
  · exact .inr ⟨b, o, e, fun i hi => k _ _ (h2 i hi)⟩
theorem RdI.none {w u : World} {a : Option Addr} {n : Nat} {zs : List Int} (h : RdI w a n zs) (k : w.grownBy u Option.none) : RdI u a n zs := h.le (CLe.grown k)
end Go.Proofs.YtpdkgmagjhibkaaGreatDoor.By

namespace Go.Proofs.YtpdkgmagjhibkaaGreatDoor.By
open Go.ChangeShapes Go.WideShapes Go.ChangeAt Go.RowKit Go.Deep
set_option linter.unusedVariables false
set_option maxRecDepth 100000

theorem bytes_of_each {W : World} {b : Nat} (l : Nat) : ∀ (o : Nat), (∀ i, i < l → ∃ z : Int, W.cell? ⟨b, o + i, none⟩ = some (.int .u8 z) ∧ 0 ≤ z ∧ z ≤ 255) → ∃ zs : List Int, zs.length = l ∧ Byt zs ∧ ∀ i, i < l → W.cell? ⟨b, o + i, none⟩ = some (.int .u8 (zs.getD i 0)) := by
  induction l with
  | zero => intro o _; exact ⟨[], rfl, fun z hz => by simp at hz, fun i hi => by omega⟩
  | succ l ih =>
    intro o h
    obtain ⟨z, h0, hz⟩ := h 0 (by omega)
    obtain ⟨zs, hl, hb, hc⟩ := ih (o + 1) (fun i hi => by
      have := h (i + 1) (by omega)
      have e : o + (i + 1) = o + 1 + i := by omega
      rw [e] at this; exact this)
    refine ⟨z :: zs, by simp [hl], ?_, ?_⟩
    · intro y hy
      rcases List.mem_cons.1 hy with rfl | hy
      · exact hz
      · exact hb y hy
    · intro i hi
      cases i with
      | zero => simpa using h0
      | succ i =>
        have := hc i (by omega)
        rw [show o + (i + 1) = o + 1 + i by omega]; simpa using this

theorem ints_of_each {W : World} {b : Nat} (l : Nat) : ∀ (o : Nat), (∀ i, i < l → ∃ z : Int, W.cell? ⟨b, o + i, none⟩ = some (.int .i64 z)) → ∃ zs : List Int, zs.length = l ∧ ∀ i, i < l → W.cell? ⟨b, o + i, none⟩ = some (.int .i64 (zs.getD i 0)) := by
  induction l with
  | zero => intro o _; exact ⟨[], rfl, fun i hi => by omega⟩
  | succ l ih =>
    intro o h
    obtain ⟨z, h0⟩ := h 0 (by omega)
    obtain ⟨zs, hl, hc⟩ := ih (o + 1) (fun i hi => by
      have := h (i + 1) (by omega)
      have e : o + (i + 1) = o + 1 + i := by omega
      rw [e] at this; exact this)
    refine ⟨z :: zs, by simp [hl], ?_⟩
    · intro i hi
      cases i with
      | zero => simpa using h0
      | succ i =>
        have := hc i (by omega)
        rw [show o + (i + 1) = o + 1 + i by omega]; simpa using this

section
variable {H : Type} {enc : TypeId × Value → H} {W : World} {base : Nat} {spare : Nat → Bool} {held : Bool}

theorem openU8 {fuel : Nat} {v : Value} {x : DataW H × List MemPlace} (h : DataW.trod enc Tryz.prog W base spare held fuel 5 [v] = some x) : ∃ z, v = .int .u8 z ∧ 0 ≤ z ∧ z ≤ 255 := by
  obtain ⟨z, e, _, hw⟩ := DataW.trod_int Tryz.underlying5 h
  simp at e
  refine ⟨z, e, ?_⟩
  have := hw
  have e1 : IntKind.u8.min = 0 := by decide
  have e2 : IntKind.u8.max = 255 := by decide
  simp [Lit.wf] at this
  omega

theorem openByS (fuel : Nat) (v : Value) (x : DataW H × List MemPlace) (h : DataW.trod enc Tryz.prog W base spare held fuel 36 [v] = some x) : ∃ a l c zs, v = .slice a l c ∧ RdB W a l zs := by
  rcases DataW.trod_slice Tryz.underlying36 h with ⟨hcs, _⟩ | ⟨y, l, c, elems, rest, n', hn', hcs, _, hb, hl, hm, hlen, hel, _, _⟩
  · simp at hcs
    exact ⟨none, 0, 0, [], hcs, ⟨rfl, .inl rfl⟩, fun z hz => by simp at hz, by omega⟩
  · simp at hcs
    have hm' : c ≤ 9223372036854775807 := by simpa [maxLen] using hm
    have hC : Tryz.prog.cellsOf 5 = 1 := by kernel_rfl
    rw [hC] at hel
    have hel2 : ∀ i, i < l → ∃ z : Int, W.cell? (y.add (i * 1)) = some (.int .u8 z) ∧ 0 ≤ z ∧ z ≤ 255 := by
      intro i hi
      have h1 := hel i hi
      rw [List.getElem?_eq_getElem (by omega), Option.bind_eq_some_iff] at h1
      obtain ⟨cs', h1, h2⟩ := h1
      obtain ⟨_, hlen', hcell⟩ := World.cells?_some h1
      match cs', hlen' with
      | [v0], _ =>
        obtain ⟨z, rfl, hz⟩ := openU8 h2
        have k0 := hcell 0 (by omega)
        exact ⟨z, by simpa [Addr.add] using k0, hz⟩
    by_cases h0 : l = 0
    · subst h0
      exact ⟨some y, 0, c, [], hcs, ⟨rfl, .inl rfl⟩, fun z hz => by simp at hz, by omega⟩
    obtain ⟨_, hz0, _⟩ := hel2 0 (by omega)
    have e := plain_at (by simpa [Addr.add] using hz0)
    obtain ⟨zs, hzl, hzb, hin⟩ := bytes_of_each (W := W) (b := y.block) l y.off (fun i hi => by
      obtain ⟨z, q0, hz⟩ := hel2 i hi
      rw [e, add_plain] at q0
      exact ⟨z, by simpa using q0, hz⟩)
    exact ⟨some y, l, c, zs, hcs, ⟨hzl, .inr ⟨y.block, y.off, by rw [← e], hin⟩⟩, hzb, by omega⟩

theorem openInS (fuel : Nat) (v : Value) (x : DataW H × List MemPlace) (h : DataW.trod enc Tryz.prog W base spare held fuel 24 [v] = some x) : ∃ a l c zs, v = .slice a l c ∧ RdI W a l zs := by
  rcases DataW.trod_slice Tryz.underlying24 h with ⟨hcs, _⟩ | ⟨y, l, c, elems, rest, n', hn', hcs, _, hb, hl, hm, hlen, hel, _, _⟩
  · simp at hcs
    exact ⟨none, 0, 0, [], hcs, ⟨rfl, .inl rfl⟩, by omega⟩
  · simp at hcs
    have hm' : c ≤ 9223372036854775807 := by simpa [maxLen] using hm
    have hC : Tryz.prog.cellsOf 3 = 1 := by kernel_rfl
    rw [hC] at hel
    have hel2 : ∀ i, i < l → ∃ z : Int, W.cell? (y.add (i * 1)) = some (.int .i64 z) := by
      intro i hi
      have h1 := hel i hi
      rw [List.getElem?_eq_getElem (by omega), Option.bind_eq_some_iff] at h1
      obtain ⟨cs', h1, h2⟩ := h1
      obtain ⟨_, hlen', hcell⟩ := World.cells?_some h1
      match cs', hlen' with
      | [v0], _ =>
        obtain ⟨z, rfl, _⟩ := openInt h2
        have k0 := hcell 0 (by omega)
        exact ⟨z, by simpa [Addr.add] using k0⟩
    by_cases h0 : l = 0
    · subst h0
      exact ⟨some y, 0, c, [], hcs, ⟨rfl, .inl rfl⟩, by omega⟩
    obtain ⟨_, hz0⟩ := hel2 0 (by omega)
    have e := plain_at (by simpa [Addr.add] using hz0)
    obtain ⟨zs, hzl, hin⟩ := ints_of_each (W := W) (b := y.block) l y.off (fun i hi => by
      obtain ⟨z, q0⟩ := hel2 i hi
      rw [e, add_plain] at q0
      exact ⟨z, by simpa using q0⟩)
    exact ⟨some y, l, c, zs, hcs, ⟨hzl, .inr ⟨y.block, y.off, by rw [← e], hin⟩⟩, by omega⟩

end
end Go.Proofs.YtpdkgmagjhibkaaGreatDoor.By

namespace Go.Proofs.YtpdkgmagjhibkaaGreatDoor.By
open Go.RowKit
set_option linter.unusedVariables false

/-- What is left of L behind all of f. -/
def szV (f : F) (L : Int) : Int := if (f.size : Int) ≤ L then L - f.size else -1

/-- The same, where the trees of R themselves are counted already. -/
def szR (R : F) (L : Int) : Int := if (R.size : Int) - R.len ≤ L then L - (R.size - R.len) else -1
theorem szR_nil {L : Int} (h : 0 ≤ L) : szR .nil L = L := by
  have : szR .nil L = if (0 : Int) ≤ L then L - 0 else -1 := rfl
  rw [this, if_pos h, Int.sub_zero]
theorem szR_all {f : F} {L : Int} {l : Nat} (h : f.len = l) : szV f L = szR f (L - l) := by
  unfold szV szR
  by_cases hs : (f.size : Int) ≤ L
  · rw [if_pos hs, if_pos (by omega)]; omega
  · rw [if_neg hs, if_neg (by omega)]
theorem szR_cons {k n : Int} {d r : F} {L : Int} (h : (d.size : Int) ≤ L) : szR (.cons k n d r) L = szR r (L - d.size) := by
  unfold szR
  have e1 : ((F.cons k n d r).size : Int) = 1 + d.size + r.size := by simp [F.size]
  have e2 : ((F.cons k n d r).len : Int) = r.len + 1 := by simp [F.len]
  rw [e1, e2]
  by_cases hq : (r.size : Int) - r.len ≤ L - d.size
  · rw [if_pos (by omega), if_pos hq]; omega
  · rw [if_neg (by omega), if_neg hq]
theorem szR_less {k n : Int} {d r : F} {L : Int} (h : ¬ (d.size : Int) ≤ L) : szR (.cons k n d r) L = -1 := by
  have := r.len_le
  unfold szR
  have e1 : ((F.cons k n d r).size : Int) = 1 + d.size + r.size := by simp [F.size]
  have e2 : ((F.cons k n d r).len : Int) = r.len + 1 := by simp [F.len]
  rw [e1, e2, if_neg (by omega)]

set_option maxHeartbeats 1000000 in
theorem szT_of {d : F} {a : Option Addr} {l c : Nat} {L : Int} (k n : Int) (w : World) (h : SlF w a l d)
    (H : ∀ w', w.grownBy w' none → Calls Tryz.prog 67 #[.slice a l c, .int .i64 L] w' fun e u => e = .returned (.int .i64 (szV d L)) ∧ w'.grownBy u none) :
    Calls Tryz.prog 68 #[.agg #[.int .i64 k, .int .i64 n, .slice a l c], .int .i64 L] w fun e u => e = .returned (.int .i64 (szV d L)) ∧ w.grownBy u none := by
  have g0 := World.grownBy_alloc w (.cells #[.int .i64 k, .int .i64 n, .slice a l c] 75) none
  have H0 : Hid _ := H _ g0
  have G0 : Hid (w.grownBy _ none) := g0
  clear g0 H
  go_enter Tryz.func68, Tryz.ntmps68
  go_wp2_with fail
  refine Calls.mono H0.out ?_
  rintro e u ⟨rfl, hg⟩
  have G1 : Hid (w.grownBy u none) := grown_trans G0.out hg
  clear hg G0 H0
  simp only []
  by_cases hs : (d.size : Int) ≤ L
  · have e1 : szV d L = L - d.size := if_pos hs
    have E : Hid (szV d L = L - d.size) := e1
    rw [e1]
    clear e1
    go_wp2
    go_ret
    exact ⟨by rw [E.out]; rfl, G1.out⟩
  · have e1 : szV d L = -1 := if_neg hs
    have E : Hid (szV d L = -1) := e1
    rw [e1]
    clear e1
    go_wp2
    go_ret
    exact ⟨by rw [E.out]; rfl, G1.out⟩

set_option maxHeartbeats 2000000 in
theorem szS (m : Nat) : ∀ (f : F) (a : Option Addr) (l c : Nat) (L : Int) (w : World), f.size ≤ m → SlF w a l f → 0 ≤ L → L ≤ 1048576 →
    Calls Tryz.prog 67 #[.slice a l c, .int .i64 L] w fun e u => e = .returned (.int .i64 (szV f L)) ∧ w.grownBy u none := by
  induction m with
  | zero =>
    intro f a l c L w hm h h0 h1
    have hlen := f.len_le
    obtain ⟨e1, e2, -⟩ := h
    obtain rfl : l = 0 := by omega
    obtain rfl := F.nil_of_len e1
    go_enter Tryz.func67, Tryz.ntmps67
    go_wp2
    refine wp_loop_rounds 1 ?_
    rw [rounds_succ]
    go_wp2
    go_ret
    exact ⟨by simp [szV, F.size, h0], World.grownBy.refl _ _⟩
  | succ m ih =>
    intro f a l c L w hm h h0 h1
    have hlen := f.len_le
    have hl := h.2.1
    have hfl := h.1
    by_cases hneg : L - (l : Int) < 0
    · have ev : szV f L = -1 := if_neg (by omega)
      rw [ev]
      go_enter Tryz.func67, Tryz.ntmps67
      go_wp2
      go_ret
      exact ⟨rfl, World.grownBy.refl _ _⟩
    rcases h.cases with ⟨rfl, rfl⟩ | ⟨b, o, rfl, hin, -, hpos⟩
    · go_enter Tryz.func67, Tryz.ntmps67
      go_wp2
      refine wp_loop_rounds 1 ?_
      rw [rounds_succ]
      go_wp2
      go_ret
      exact ⟨by simp [szV, F.size, h0], World.grownBy.refl _ _⟩
    have IH : Hid _ := ih
    have IN : Hid (InF w f b o) := hin
    clear ih hin h
    go_enter Tryz.func67, Tryz.ntmps67
    go_wp2
    go_loopw [1, 5] (fun v i wr => ∃ (j : Nat) (R : F) (Lj : Int), j ≤ l ∧ i = .int .i64 j ∧ v = .int .i64 Lj ∧ 0 ≤ Lj ∧ Lj ≤ 1048576 ∧ w.grownBy wr none ∧ InF wr R b (o + j * 3) ∧ R.len + j = l ∧ R.size ≤ f.size ∧ szV f L = szR R Lj) (fun _ i _ => l - (intOf i).toNat)
    case atStart =>
      refine ⟨0, f, _, Nat.zero_le _, rfl, rfl, by omega, by omega, World.grownBy.refl _ _, by simpa using IN.out, by omega, Nat.le_refl _, szR_all hfl⟩
    case round =>
      obtain ⟨j, R, Lj, hj, rfl, rfl, hj0, hj1, hg, hR, hRl, hRs, hv⟩ := hrel
      by_cases hlt : j < l
      · obtain ⟨q, hq⟩ : ∃ q, R.len = q + 1 := ⟨R.len - 1, by omega⟩
        obtain ⟨kk, nn, d, R', rfl, hR'⟩ := F.cons_of_len hq
        obtain ⟨a', l', c', c0, c1, c2, hd, hR2⟩ := hR.out
        have e3 : o + j * 3 + 3 = o + (j + 1) * 3 := by omega
        rw [e3] at hR2
        have lens := R'.len_le
        have hds : d.size ≤ m := by simp only [F.size] at hRs hm; omega
        have C := szT_of (c := c') (L := Lj) kk nn wr hd (fun w' hw' => IH.out d a' l' c' Lj w' hds (hd.none hw') hj0 hj1)
        have CC : Hid _ := C
        have HV : Hid (szV f L = _) := hv
        have FX : Hid (InF wr R' b (o + (j + 1) * 3) ∧ w.grownBy wr none) := ⟨hR2, hg⟩
        clear C hd hR hR2 hg hv IN IH
        go_wp2_with fail
        refine Calls.mono CC.out ?_
        rintro e u ⟨rfl, hgu⟩
        obtain ⟨hR2, hg⟩ := FX.out
        have FY : Hid (InF u R' b (o + (j + 1) * 3) ∧ w.grownBy u none) := ⟨hR2.none hgu, grown_trans hg hgu⟩
        clear hR2 hg hgu CC c0 c1 c2 FX
        simp only []
        by_cases hs : (d.size : Int) ≤ Lj
        · have e1 : szV d Lj = Lj - d.size := if_pos hs
          rw [e1]
          clear e1
          go_wp2
          go_roundw
          case rel =>
            refine ⟨j + 1, R', _, by omega, by go_num, rfl, by omega, by omega, FY.out.2, FY.out.1, by omega, by simp only [F.size] at hRs; omega, HV.out.trans (szR_cons hs)⟩
          case measure => simp [intOf]; omega
        · have e1 : szV d Lj = -1 := if_neg hs
          rw [e1]
          have E : Hid (szV f L = -1) := HV.out.trans (szR_less hs)
          clear e1
          go_wp2
          go_ret
          exact ⟨by rw [E.out]; rfl, FY.out.2⟩
      · obtain rfl : j = l := by omega
        obtain rfl : R = .nil := F.nil_of_len (by omega)
        have E : Hid (szV f L = Lj) := hv.trans (szR_nil hj0)
        clear hv
        go_wp2
        go_ret
        exact ⟨by rw [E.out]; rfl, hg⟩
end Go.Proofs.YtpdkgmagjhibkaaGreatDoor.By
