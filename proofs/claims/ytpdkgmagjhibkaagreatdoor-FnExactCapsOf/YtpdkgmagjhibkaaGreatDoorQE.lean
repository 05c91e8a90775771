/-
  A program behind what the writer has. No statement is proved here.
-/
import Derived.Test.YtpdkgmagjhibkaaGreatDoorPCAlso
namespace Go.Proofs.YtpdkgmagjhibkaaGreatDoor.By
open Go.RowKit
set_option linter.unusedVariables false
set_option linter.unusedSimpArgs false

def conB (f : F) : List Int := numB (f.len : Int) ++ tysB f
def consB : List F → List Int
  | [] => []
  | f :: r => conB f ++ consB r
def layB (x : RLayout) : List Int := numB (x.cons.length : Int) ++ consB x.cons
def laysB : List RLayout → List Int
  | [] => []
  | x :: r => layB x ++ laysB r
def blksB : List RBlock → List Int
  | [] => []
  | x :: r => blockB x ++ blksB r
def progB (x : RProg) : List Int := numB (x.lays.length : Int) ++ (laysB x.lays ++ (numB (x.caps.length : Int) ++ (numsB x.caps ++ (numB (x.blks.length : Int) ++ blksB x.blks))))
theorem consB_app (a b : List F) : consB (a ++ b) = consB a ++ consB b := by
  induction a with
  | nil => rfl
  | cons x r ih => simp [consB, ih]
theorem laysB_app (a b : List RLayout) : laysB (a ++ b) = laysB a ++ laysB b := by
  induction a with
  | nil => rfl
  | cons x r ih => simp [laysB, ih]
theorem blksB_app (a b : List RBlock) : blksB (a ++ b) = blksB a ++ blksB b := by
  induction a with
  | nil => rfl
  | cons x r ih => simp [blksB, ih]
theorem conB_len {M : Nat} {f : F} (h : conV M f = true) : (conB f).length ≤ 1985 := by
  simp only [conV, Bool.and_eq_true, decide_eq_true_eq] at h
  have := numB_len (f.len : Int)
  have := tysB_len f
  simp only [conB, List.length_append]; omega
theorem consB_len {M : Nat} : ∀ (l : List F), l.all (conV M) = true → (consB l).length ≤ 1985 * l.length
  | [], _ => by simp [consB]
  | f :: r, h => by
    simp only [List.all_cons, Bool.and_eq_true] at h
    have := conB_len h.1
    have := consB_len r h.2
    simp only [consB, List.length_append, List.length_cons]; omega
theorem layB_len {M : Nat} {x : RLayout} (h : layV M x = true) : (layB x).length ≤ 9930 := by
  simp only [layV, Bool.and_eq_true, decide_eq_true_eq] at h
  have := numB_len (x.cons.length : Int)
  have := consB_len x.cons h.2
  simp only [layB, List.length_append]; omega
theorem laysB_len {M : Nat} : ∀ (l : List RLayout), l.all (layV M) = true → (laysB l).length ≤ 9930 * l.length
  | [], _ => by simp [laysB]
  | f :: r, h => by
    simp only [List.all_cons, Bool.and_eq_true] at h
    have := layB_len h.1
    have := laysB_len r h.2
    simp only [laysB, List.length_append, List.length_cons]; omega
theorem blockB_len {M : Nat} {x : RBlock} (h : blockV M x = true) : (blockB x).length ≤ 200000 := by
  unfold blockV at h
  simp only [Bool.and_eq_true, decide_eq_true_eq, Bool.not_eq_true'] at h
  obtain ⟨⟨⟨⟨n1, n4⟩, n5⟩, n6⟩, -, hall⟩ := h
  have hs1 := tysB_len x.env
  have hs4 := tysB_len x.locs
  have hs2 := bytesV_len x.argk x.argn x.argf
  have hs3 := bytesV_len x.resk x.resn x.resf
  have hs5 := codeB_len x.code hall
  have hnA := numB_len (x.env.len : Int)
  have hnB := numB_len (x.locs.len : Int)
  have hnC := numB_len (x.code.length : Int)
  simp only [blockB, List.length_append]; omega
theorem blksB_len {M : Nat} : ∀ (l : List RBlock), (l.any fun b => !blockV M b) = false → (blksB l).length ≤ 200000 * l.length
  | [], _ => by simp [blksB]
  | x :: r, h => by
    simp only [List.any_cons, Bool.or_eq_false_iff, Bool.not_eq_false'] at h
    have := blockB_len h.1
    have := blksB_len r h.2
    simp only [blksB, List.length_append, List.length_cons]; omega
theorem capsR_len : ∀ (zs : List Int) (p : Int), capsR false p zs = true → 0 ≤ p → p ≤ 4 → (zs.length : Int) ≤ 4 - p
  | [], p, _, hp, hq => by simp; omega
  | z :: r, p, h, hp, hq => by
    simp only [capsR, Bool.and_eq_true, Bool.or_eq_true, decide_eq_true_eq, Bool.false_eq_true, false_or] at h
    have := capsR_len r z h.2 (by omega) (by omega)
    simp only [List.length_cons]; omega
theorem capsV_len {zs : List Int} (h : capsV zs = true) : zs.length ≤ 5 := by
  cases zs with
  | nil => simp
  | cons z r =>
    simp only [capsV, capsR, Bool.and_eq_true, Bool.or_eq_true, decide_eq_true_eq, true_or, and_true] at h
    have := capsR_len r z h.2 (by omega) (by omega)
    simp only [List.length_cons]; omega
/-- What is kept while a program is written. -/
structure PgS (B q p3 : Nat) (w u : World) (v : Value) (zs : List Int) (a1 : Option Addr) (l1 c1 : Nat) (a2 : Option Addr) (l2 c2 : Nat) (a3 : Option Addr) (l3 c3 : Nat) : Prop where
  wr : WrS B q u v zs
  fr : FrQ B q w u
  box : u.heap[p3]? = some (Obj.cells #[.slice a1 l1 c1, .slice a2 l2 c2, .slice a3 l3 c3] 32)
theorem PgS.go {B q p3 : Nat} {w u u' : World} {v v' : Value} {zs zs' : List Int} {a1 a2 a3 : Option Addr} {l1 c1 l2 c2 l3 c3 : Nat} (h : PgS B q p3 w u v zs a1 l1 c1 a2 l2 c2 a3 l3 c3) (hw : WrS B q u' v' zs') (hf : FrQ B q u u') (hp : p3 ≠ q) : PgS B q p3 w u' v' zs' a1 l1 c1 a2 l2 c2 a3 l3 c3 :=
  ⟨hw, h.fr.trans hf, hf.other _ _ _ _ h.box (by decide) hp⟩

set_option maxRecDepth 8000 in
set_option maxHeartbeats 8000000 in
theorem programWT (B q : Nat) (v : Value) (zs : List Int) (x : RProg) (a1 : Option Addr) (l1 c1 : Nat) (a2 : Option Addr) (l2 c2 : Nat) (a3 : Option Addr) (l3 c3 : Nat) (W0 w : World) (hB : B = W0.heap.size) (h : WrS B q w v zs) (hbl : Below W0.heap.size W0 w) (h0 : RdProg W0 x a1 l1 a2 l2 a3 l3) (hO : OpsIn W0) (hv : standsV x = true) (hb : zs.length + 31000000 ≤ 90000000) :
    Calls Tryz.prog 33 #[.pointer (some ⟨q, 0, none⟩), .agg #[.slice a1 l1 c1, .slice a2 l2 c2, .slice a3 l3 c3]] w fun e u => e = .returned (.tuple #[]) ∧ ∃ v', WrS B q u v' (zs ++ progB x) ∧ FrQ B q w u := by
  have g0 := World.grownBy_alloc w (.cells #[.slice a1 l1 c1, .slice a2 l2 c2, .slice a3 l3 c3] 32) none
  have b0 := heap_alloc_new w (.cells #[.slice a1 l1 c1, .slice a2 l2 c2, .slice a3 l3 c3] 32)
  have hq : w.heap.size ≠ q := by have := lt_of_block h.box; omega
  have BLW : Hid (∀ u, FrQ B q w u → Below W0.heap.size W0 u) := fun u hu => hbl.trans (by rw [← hB]; exact hu.below)
  have e1 : x.lays.length = l1 := h0.1.1
  have e2 : x.blks.length = l2 := h0.2.1.1
  have e3 : x.caps.length = l3 := h0.2.2.1.1
  have m1 := h0.1.2.1
  have m2 := h0.2.1.2.1
  have m3 := h0.2.2.2
  unfold standsV laysV at hv
  simp only [Bool.and_eq_true, decide_eq_true_eq, Bool.not_eq_true'] at hv
  obtain ⟨⟨n1, n2⟩, ⟨⟨n3, hlay⟩, hcap⟩, hblk⟩ := hv
  rw [e1] at n3 hlay hblk
  rw [e2] at n1 n2
  have n5 := capsV_len hcap
  rw [e3] at n5
  have hnA := numB_len (l1 : Int)
  have hnB := numB_len (l2 : Int)
  have hnC := numB_len (l3 : Int)
  have hs1 := laysB_len x.lays hlay
  have hs3 := numsB_len x.caps
  rw [e1] at hs1
  rw [e3] at hs3
  have L0 : Hid (PgS B q w.heap.size w (w.alloc (.cells #[.slice a1 l1 c1, .slice a2 l2 c2, .slice a3 l3 c3] 32)) v zs a1 l1 c1 a2 l2 c2 a3 l3 c3) := ⟨h.grown g0, FrQ.grown g0 h.size, b0⟩
  have H0 : Hid (RdProg W0 x a1 l1 a2 l2 a3 l3 ∧ OpsIn W0) := ⟨h0, hO⟩
  have HLAY : Hid (x.lays.all (layV l1) = true) := hlay
  have HBLK : Hid ((x.blks.any fun b => !blockV l1 b) = false) := hblk
  have HPB : Hid (progB x = numB (l1 : Int) ++ (laysB x.lays ++ (numB (l3 : Int) ++ (numsB x.caps ++ (numB (l2 : Int) ++ blksB x.blks))))) := by show _ = _; unfold progB; rw [e1, e2, e3]
  clear h h0 hO hbl g0 b0 hlay hblk hcap e3
  obtain ⟨⟨y0, y1, y2⟩, -⟩ := blkProg L0.out.box
  go_enter Tryz.func33, Tryz.ntmps33
  go_upto_region 1 with fail
  generalize w.alloc (.cells #[.slice a1 l1 c1, .slice a2 l2 c2, .slice a3 l3 c3] 32) = v0 at *
  generalize w.heap.size = p3 at *
  have C0 : Hid _ := num1T B q _ _ ((l1 : Nat) : Int) v0 L0.out.wr (by omega)
  go_wp2_with fail
  refine Calls.mono C0.out ?_
  rintro e v1 ⟨he, vv0, hw, hf⟩
  subst he
  have L1 : Hid (PgS B q p3 w v1 vv0 (zs ++ numB (l1 : Int)) a1 l1 c1 a2 l2 c2 a3 l3 c3) := L0.out.go hw hf hq
  clear C0 hw hf L0 y0 y1 y2
  obtain ⟨⟨y0, y1, y2⟩, -⟩ := blkProg L1.out.box
  simp only []
  obtain ⟨zz, hzz⟩ : ∃ zz, zz = zs ++ numB (l1 : Int) := ⟨_, rfl⟩
  rw [← hzz] at L1
  have hzl : zz.length + 30900000 ≤ 90000000 := by rw [hzz]; simp only [List.length_append]; omega
  have HLY : Hid (∀ b ob, a1 = some ⟨b, ob, none⟩ → 0 < l1 → InLayout W0 W0 x.lays b ob) := fun b ob e hp => by
    rcases H0.out.1.1.cases with ⟨h, _⟩ | ⟨b', ob', h, hi, _⟩
    · omega
    · rw [e] at h; injection h with h; injection h with h1 h2; subst h1 h2; exact hi
  have HLA : Hid (0 < l1 → ∃ b ob, a1 = some ⟨b, ob, none⟩) := fun hp => by
    rcases H0.out.1.1.cases with ⟨h, _⟩ | ⟨b', ob', h, hi, _⟩
    · omega
    · exact ⟨b', ob', h⟩
  have HBY : Hid (∀ b ob, a2 = some ⟨b, ob, none⟩ → 0 < l2 → InBlock W0 W0 x.blks b ob) := fun b ob e hp => by
    rcases H0.out.1.2.1.cases with ⟨h, _⟩ | ⟨b', ob', h, hi, _⟩
    · omega
    · rw [e] at h; injection h with h; injection h with h1 h2; subst h1 h2; exact hi
  have HBA : Hid (0 < l2 → ∃ b ob, a2 = some ⟨b, ob, none⟩) := fun hp => by
    rcases H0.out.1.2.1.cases with ⟨h, _⟩ | ⟨b', ob', h, hi, _⟩
    · omega
    · exact ⟨b', ob', h⟩
  go_wp2
  go_loopw [19] (fun i wr => ∃ (j : Nat) (pre R : List RLayout) (v2 : Value), j ≤ l1 ∧ i = .int .i64 j ∧ pre.length = j ∧ R.length + j = l1 ∧ Hid (PgS B q p3 w wr v2 (zz ++ laysB pre) a1 l1 c1 a2 l2 c2 a3 l3 c3 ∧ pre ++ R = x.lays ∧ ∀ b ob, a1 = some ⟨b, ob, none⟩ → 0 < l1 → InLayout W0 W0 R b (ob + j * 1))) (fun i _ => l1 - (intOf i).toNat)
  case atStart => exact ⟨0, [], x.lays, vv0, Nat.zero_le _, rfl, rfl, by omega, by simpa [laysB] using L1.out, rfl, fun b ob e hp => by simpa using HLY.out b ob e hp⟩
  case round =>
    clear L1 y0 y1 y2
    obtain ⟨j, pre, R, v2, hj, rfl, hpl, hRl, HQ⟩ := hrel
    by_cases hlt : j < l1
    · obtain ⟨y, R', rfl⟩ : ∃ x R', R = x :: R' := by
        cases R with
        | nil => simp at hRl; omega
        | cons x R' => exact ⟨x, R', rfl⟩
      obtain ⟨b, ob, rfl⟩ := HLA.out (by omega)
      obtain ⟨hP, hcs, hin⟩ := HQ.out
      obtain ⟨⟨e1', f1, g1, k0, hd⟩, hR2⟩ := hin b ob rfl (by omega)
      have hd' : SlTys W0 e1' f1 y.cons := hd
      rw [show ob + j * 1 + 1 = ob + (j + 1) * 1 by omega] at hR2
      simp only [List.length_cons] at hRl
      have k0 := cle_below (BLW.out _ hP.fr) _ _ k0
      simp only [Nat.mul_one] at k0
      have hally : layV l1 y = true ∧ pre.all (layV l1) = true := by
        have := HLAY.out
        rw [← hcs] at this
        simp only [List.all_append, List.all_cons, Bool.and_eq_true] at this
        exact ⟨this.2.1, this.1⟩
      have hpre := laysB_len pre hally.2
      have hyy := hally.1
      simp only [layV, Bool.and_eq_true, decide_eq_true_eq] at hyy
      obtain ⟨⟨hc1, hc5⟩, hcons⟩ := hyy
      have hcl := hd'.1
      rw [hcl] at hc1 hc5
      have hcm := hd'.2.1
      obtain ⟨b1, o1, rfl, hin1⟩ : ∃ b1 o1, e1' = some ⟨b1, o1, none⟩ ∧ InTys W0 W0 y.cons b1 o1 := by
        rcases hd'.2.2 with h | h
        · omega
        · exact h
      have ga := World.grownBy_alloc wr (.cells #[.slice (some ⟨b1, o1, none⟩) f1 g1] 86) none
      have ba := heap_alloc_new wr (.cells #[.slice (some ⟨b1, o1, none⟩) f1 g1] 86)
      have hp5 : wr.heap.size ≠ q := by have := lt_of_block hP.wr.box; omega
      have M0 : Hid (PgS B q p3 w (wr.alloc (.cells #[.slice (some ⟨b1, o1, none⟩) f1 g1] 86)) v2 (zz ++ laysB pre) (some ⟨b, ob, none⟩) l1 c1 a2 l2 c2 a3 l3 c3 ∧ (wr.alloc (.cells #[.slice (some ⟨b1, o1, none⟩) f1 g1] 86)).heap[wr.heap.size]? = some (Obj.cells #[.slice (some ⟨b1, o1, none⟩) f1 g1] 86)) := ⟨hP.go (hP.wr.grown ga) (FrQ.grown ga hP.wr.size) hq, ba⟩
      have FX : Hid ((pre ++ [y]) ++ R' = x.lays ∧ (∀ b' ob', some (⟨b, ob, none⟩ : Addr) = some ⟨b', ob', none⟩ → 0 < l1 → InLayout W0 W0 R' b' (ob' + (j + 1) * 1)) ∧ (zz ++ laysB pre) ++ (numB (f1 : Int) ++ consB y.cons) = zz ++ laysB (pre ++ [y])) := ⟨by rw [List.append_assoc]; exact hcs, fun b' ob' e _ => by injection e with e; injection e with h1 h2; subst h1 h2; exact hR2, by rw [laysB_app]; simp [laysB, layB, hcl, List.append_assoc]⟩
      have I1 : Hid (InTys W0 W0 y.cons b1 o1 ∧ y.cons.all (conV l1) = true) := ⟨hin1, hcons⟩
      obtain x0 := (blkLayout ba).1
      have hnf := numB_len (f1 : Int)
      clear hP hcs hin hd hd' hR2 HQ ga ba hin1 hcons hally
      go_upto_region 5 with fail
      clear k0
      generalize wr.alloc (.cells #[.slice (some ⟨b1, o1, none⟩) f1 g1] 86) = t0 at *
      generalize wr.heap.size = p5 at *
      have C1 : Hid _ := num1T B q _ _ ((f1 : Nat) : Int) t0 M0.out.1.wr (by simp only [List.length_append]; omega)
      go_wp2_with fail
      refine Calls.mono C1.out ?_
      rintro e t1 ⟨he, v3, hw, hf⟩
      subst he
      have M1 : Hid (PgS B q p3 w t1 v3 ((zz ++ laysB pre) ++ numB (f1 : Int)) (some ⟨b, ob, none⟩) l1 c1 a2 l2 c2 a3 l3 c3 ∧ t1.heap[p5]? = some (Obj.cells #[.slice (some ⟨b1, o1, none⟩) f1 g1] 86)) := ⟨M0.out.1.go hw hf hq, hf.other _ _ _ _ M0.out.2 (by decide) hp5⟩
      clear C1 hw hf M0 x0
      obtain x0 := (blkLayout M1.out.2).1
      obtain ⟨zy, hzy⟩ : ∃ zy, zy = (zz ++ laysB pre) ++ numB (f1 : Int) := ⟨_, rfl⟩
      rw [← hzy] at M1
      have hzyl : zy.length + 10000 ≤ 90000000 := by rw [hzy]; simp only [List.length_append]; omega
      have HZY : Hid (zy ++ consB y.cons = zz ++ laysB (pre ++ [y])) := by show _ = _; rw [hzy, ← FX.out.2.2]; simp only [List.append_assoc]
      clear hzy
      simp only []
      go_wp2
      go_loopw [32] (fun i ww => ∃ (m : Nat) (P2 Q : List F) (v4 : Value), m ≤ f1 ∧ i = .int .i64 m ∧ P2.length = m ∧ Q.length + m = f1 ∧ Hid (PgS B q p3 w ww v4 (zy ++ consB P2) (some ⟨b, ob, none⟩) l1 c1 a2 l2 c2 a3 l3 c3 ∧ P2 ++ Q = y.cons ∧ InTys W0 W0 Q b1 (o1 + m * 1))) (fun i _ => f1 - (intOf i).toNat)
      case atStart => exact ⟨0, [], y.cons, v3, Nat.zero_le _, rfl, rfl, by omega, by simpa [consB] using M1.out.1, rfl, by simpa using I1.out.1⟩
      case round =>
        clear M1 x0
        obtain ⟨m, P2, Q, v4, hm, rfl, hml, hQl, HQ2⟩ := hrel
        by_cases hlt2 : m < f1
        · obtain ⟨f, Q', rfl⟩ : ∃ x R', Q = x :: R' := by
            cases Q with
            | nil => simp at hQl; omega
            | cons x R' => exact ⟨x, R', rfl⟩
          obtain ⟨hP, hcs, ⟨⟨e2', f2, g2, k0, hd⟩, hQ2⟩⟩ := HQ2.out
          rw [show o1 + m * 1 + 1 = o1 + (m + 1) * 1 by omega] at hQ2
          simp only [List.length_cons] at hQl
          have k0 := cle_below (BLW.out _ hP.fr) _ _ k0
          simp only [Nat.mul_one] at k0
          have hallf : conV l1 f = true ∧ P2.all (conV l1) = true := by
            have := I1.out.2
            rw [← hcs] at this
            simp only [List.all_append, List.all_cons, Bool.and_eq_true] at this
            exact ⟨this.2.1, this.1⟩
          have hpre2 := consB_len P2 hallf.2
          have hff := hallf.1
          simp only [conV, Bool.and_eq_true, decide_eq_true_eq] at hff
          have hfl := hd.1
          have hfm := hd.2.1
          have hf3 := hff.1
          rw [hfl] at hf3
          have hnf2 := numB_len (f2 : Int)
          have FY : Hid ((P2 ++ [f]) ++ Q' = y.cons ∧ InTys W0 W0 Q' b1 (o1 + (m + 1) * 1) ∧ (zy ++ consB P2) ++ (numB (f2 : Int) ++ tysB f) = zy ++ consB (P2 ++ [f]) ∧ SlF W0 e2' f2 f) := ⟨by rw [List.append_assoc]; exact hcs, hQ2, by rw [consB_app]; simp [consB, conB, hfl, List.append_assoc], hd⟩
          have N0 : Hid (PgS B q p3 w wr v4 (zy ++ consB P2) (some ⟨b, ob, none⟩) l1 c1 a2 l2 c2 a3 l3 c3) := hP
          clear hP hcs hd hQ2 HQ2 hallf hff
          have C2 : Hid _ := num1T B q _ _ ((f2 : Nat) : Int) wr N0.out.wr (by simp only [List.length_append]; omega)
          go_wp2_with fail
          refine Calls.mono C2.out ?_
          rintro e t2 ⟨he, v5, hw, hf⟩
          subst he
          have N1 : Hid (PgS B q p3 w t2 v5 ((zy ++ consB P2) ++ numB (f2 : Int)) (some ⟨b, ob, none⟩) l1 c1 a2 l2 c2 a3 l3 c3) := N0.out.go hw hf hq
          clear C2 hw hf N0 k0
          simp only []
          have C3 : Hid _ := typesT B q _ _ f e2' f2 g2 t2 N1.out.wr (fun u hu => FY.out.2.2.2.le (cle_below (BLW.out u (N1.out.fr.trans hu)))) (by simp only [List.length_append]; omega)
          go_wp2_with fail
          refine Calls.mono C3.out ?_
          rintro e t3 ⟨he, v6, hw, hf⟩
          subst he
          have N2 : Hid (PgS B q p3 w t3 v6 (zy ++ consB (P2 ++ [f])) (some ⟨b, ob, none⟩) l1 c1 a2 l2 c2 a3 l3 c3) := by
            have := N1.out.go hw hf hq
            rw [List.append_assoc, FY.out.2.2.1] at this
            exact this
          clear C3 hw hf N1
          simp only []
          go_wp2
          go_roundw
          case rel => exact ⟨m + 1, P2 ++ [f], Q', v6, by omega, by go_num, by simp [hml], by omega, N2.out, FY.out.1, FY.out.2.1⟩
          case measure => simp [intOf]; omega
        · obtain rfl : m = f1 := by omega
          obtain rfl : Q = [] := List.eq_nil_of_length_eq_zero (by omega)
          obtain ⟨hP, hcs, -⟩ := HQ2.out
          rw [List.append_nil] at hcs
          have FZ : Hid (PgS B q p3 w wr v4 (zz ++ laysB (pre ++ [y])) (some ⟨b, ob, none⟩) l1 c1 a2 l2 c2 a3 l3 c3) := by rw [← HZY.out, ← hcs]; exact hP
          clear hP hcs HQ2
          go_wp2
          go_roundw
          case rel => exact ⟨j + 1, pre ++ [y], R', v4, by omega, by go_num, by simp [hpl], by omega, FZ.out, FX.out.1, FX.out.2.1⟩
          case measure => simp [intOf]; omega
    · obtain rfl : j = l1 := by omega
      obtain rfl : R = [] := List.eq_nil_of_length_eq_zero (by omega)
      obtain ⟨hP, hcs, -⟩ := HQ.out
      rw [List.append_nil] at hcs
      have hpl' : pre.length = j := hpl
      rw [hcs] at hP
      have K0 : Hid (PgS B q p3 w wr v2 (zz ++ laysB x.lays) a1 j c1 a2 l2 c2 a3 l3 c3) := hP
      clear hP HQ hcs hpl hpl'
      obtain ⟨⟨y0, y1, y2⟩, -⟩ := blkProg K0.out.box
      have D0 : Hid _ := num1T B q _ _ ((l3 : Nat) : Int) wr K0.out.wr (by simp only [List.length_append]; omega)
      go_wp2_with fail
      refine Calls.mono D0.out ?_
      rintro e s1 ⟨he, x1, hw, hf⟩
      subst he
      have K1 : Hid (PgS B q p3 w s1 x1 ((zz ++ laysB x.lays) ++ numB (l3 : Int)) a1 j c1 a2 l2 c2 a3 l3 c3) := K0.out.go hw hf hq
      clear D0 hw hf K0 y0 y1 y2
      obtain ⟨⟨y0, y1, y2⟩, -⟩ := blkProg K1.out.box
      simp only []
      have D1 : Hid _ := numsT B q _ _ x.caps a3 l3 c3 s1 K1.out.wr (fun u hu => H0.out.1.2.2.le (cle_below (BLW.out u (K1.out.fr.trans hu)))) (by simp only [List.length_append]; omega)
      go_wp2_with fail
      refine Calls.mono D1.out ?_
      rintro e s2 ⟨he, x2, hw, hf⟩
      subst he
      have K2 : Hid (PgS B q p3 w s2 x2 (((zz ++ laysB x.lays) ++ numB (l3 : Int)) ++ numsB x.caps) a1 j c1 a2 l2 c2 a3 l3 c3) := K1.out.go hw hf hq
      clear D1 hw hf K1 y0 y1 y2
      obtain ⟨⟨y0, y1, y2⟩, -⟩ := blkProg K2.out.box
      simp only []
      have D2 : Hid _ := num1T B q _ _ ((l2 : Nat) : Int) s2 K2.out.wr (by simp only [List.length_append]; omega)
      go_wp2_with fail
      refine Calls.mono D2.out ?_
      rintro e s3 ⟨he, x3, hw, hf⟩
      subst he
      have K3 : Hid (PgS B q p3 w s3 x3 ((((zz ++ laysB x.lays) ++ numB (l3 : Int)) ++ numsB x.caps) ++ numB (l2 : Int)) a1 j c1 a2 l2 c2 a3 l3 c3) := K2.out.go hw hf hq
      clear D2 hw hf K2 y0 y1 y2
      obtain ⟨⟨y0, y1, y2⟩, -⟩ := blkProg K3.out.box
      simp only []
      obtain ⟨zt, hzt⟩ : ∃ zt, zt = ((((zz ++ laysB x.lays) ++ numB (l3 : Int)) ++ numsB x.caps) ++ numB (l2 : Int)) := ⟨_, rfl⟩
      rw [← hzt] at K3
      have hztl : zt.length + 30200000 ≤ 90000000 := by rw [hzt]; simp only [List.length_append]; rw [hzz]; simp only [List.length_append]; omega
      have HZT : Hid (zt ++ blksB x.blks = zs ++ progB x) := by show _ = _; rw [hzt, hzz, HPB.out]; simp only [List.append_assoc]
      clear hzt HPB
      go_wp2
      go_loopw [65] (fun i ww => ∃ (m : Nat) (P2 Q : List RBlock) (v4 : Value), m ≤ l2 ∧ i = .int .i64 m ∧ P2.length = m ∧ Q.length + m = l2 ∧ Hid (PgS B q p3 w ww v4 (zt ++ blksB P2) a1 j c1 a2 l2 c2 a3 l3 c3 ∧ P2 ++ Q = x.blks ∧ ∀ b ob, a2 = some ⟨b, ob, none⟩ → 0 < l2 → InBlock W0 W0 Q b (ob + m * 9))) (fun i _ => l2 - (intOf i).toNat)
      case atStart => exact ⟨0, [], x.blks, x3, Nat.zero_le _, rfl, rfl, by omega, by simpa [blksB] using K3.out, rfl, fun b ob e hp => by simpa using HBY.out b ob e hp⟩
      case round =>
        clear K3 y0 y1 y2
        obtain ⟨m, P2, Q, v4, hm, rfl, hml, hQl, HQ2⟩ := hrel
        by_cases hlt2 : m < l2
        · obtain ⟨y, Q', rfl⟩ : ∃ x R', Q = x :: R' := by
            cases Q with
            | nil => simp at hQl; omega
            | cons x R' => exact ⟨x, R', rfl⟩
          obtain ⟨b, ob, rfl⟩ := HBA.out (by omega)
          obtain ⟨hP, hcs, hin⟩ := HQ2.out
          obtain ⟨⟨e1', f1, g1, e2', f2, g2, e3', f3, g3, e4', f4, g4, e5', f5, g5, ⟨k0, k1, k2, k3, k4, k5, k6, k7, k8⟩, hd⟩, hQ2⟩ := hin b ob rfl (by omega)
          rw [show ob + m * 9 + 9 = ob + (m + 1) * 9 by omega] at hQ2
          simp only [List.length_cons] at hQl
          have cl := cle_below (BLW.out _ hP.fr)
          have k0 := cl _ _ k0
          have k1 := cl _ _ k1
          have k2 := cl _ _ k2
          have k3 := cl _ _ k3
          have k4 := cl _ _ k4
          have k5 := cl _ _ k5
          have k6 := cl _ _ k6
          have k7 := cl _ _ k7
          have k8 := cl _ _ k8
          have hally : blockV j y = true ∧ (P2.any fun b => !blockV j b) = false := by
            have := HBLK.out
            rw [← hcs] at this
            simp only [List.any_append, List.any_cons, Bool.or_eq_false_iff, Bool.not_eq_false'] at this
            exact ⟨this.2.1, this.1⟩
          have hpre2 := blksB_len P2 hally.2
          have ga := World.grownBy_alloc wr (.cells #[.slice e1' f1 g1, .int .i64 y.argk, .int .i64 y.argn, .slice e2' f2 g2, .int .i64 y.resk, .int .i64 y.resn, .slice e3' f3 g3, .slice e4' f4 g4, .slice e5' f5 g5] 63) none
          have CC : Hid _ := blockWT B q v4 (zt ++ blksB P2) y e1' f1 g1 e2' f2 g2 e3' f3 g3 e4' f4 g4 e5' f5 g5 j W0 (wr.alloc (.cells #[.slice e1' f1 g1, .int .i64 y.argk, .int .i64 y.argn, .slice e2' f2 g2, .int .i64 y.resk, .int .i64 y.resn, .slice e3' f3 g3, .slice e4' f4 g4, .slice e5' f5 g5] 63)) hB (hP.wr.grown ga) ((BLW.out _ hP.fr).trans (by rw [← hB]; exact (FrQ.grown (q := q) ga hP.wr.size).below)) hd H0.out.2 hally.1 (by simp only [List.length_append]; omega)
          obtain ⟨⟨z0, z1, z2, z3, z4, z5, z6, z7, z8⟩, -⟩ := blkBlock (heap_alloc_new wr (.cells #[.slice e1' f1 g1, .int .i64 y.argk, .int .i64 y.argn, .slice e2' f2 g2, .int .i64 y.resk, .int .i64 y.resn, .slice e3' f3 g3, .slice e4' f4 g4, .slice e5' f5 g5] 63))
          have N0 : Hid (PgS B q p3 w (wr.alloc (.cells #[.slice e1' f1 g1, .int .i64 y.argk, .int .i64 y.argn, .slice e2' f2 g2, .int .i64 y.resk, .int .i64 y.resn, .slice e3' f3 g3, .slice e4' f4 g4, .slice e5' f5 g5] 63)) v4 (zt ++ blksB P2) a1 j c1 (some ⟨b, ob, none⟩) l2 c2 a3 l3 c3) := hP.go (hP.wr.grown ga) (FrQ.grown ga hP.wr.size) hq
          have FX : Hid ((P2 ++ [y]) ++ Q' = x.blks ∧ (∀ b' ob', some (⟨b, ob, none⟩ : Addr) = some ⟨b', ob', none⟩ → 0 < l2 → InBlock W0 W0 Q' b' (ob' + (m + 1) * 9)) ∧ (zt ++ blksB P2) ++ blockB y = zt ++ blksB (P2 ++ [y])) := ⟨by rw [List.append_assoc]; exact hcs, fun b' ob' e _ => by injection e with e; injection e with h1 h2; subst h1 h2; exact hQ2, by rw [blksB_app]; simp [blksB, List.append_assoc]⟩
          clear hP hcs hin hd hQ2 HQ2 cl ga hally
          go_wp2_with fail
          refine Calls.mono CC.out ?_
          rintro e t3 ⟨he, v6, hw, hf⟩
          subst he
          have N2 : Hid (PgS B q p3 w t3 v6 (zt ++ blksB (P2 ++ [y])) a1 j c1 (some ⟨b, ob, none⟩) l2 c2 a3 l3 c3) := by rw [← FX.out.2.2]; exact N0.out.go hw hf hq
          clear CC hw hf N0 k0 k1 k2 k3 k4 k5 k6 k7 k8 z0 z1 z2 z3 z4 z5 z6 z7 z8
          simp only []
          go_wp2
          go_roundw
          case rel => exact ⟨m + 1, P2 ++ [y], Q', v6, by omega, by go_num, by simp [hml], by omega, N2.out, FX.out.1, FX.out.2.1⟩
          case measure => simp [intOf]; omega
        · obtain rfl : m = l2 := by omega
          obtain rfl : Q = [] := List.eq_nil_of_length_eq_zero (by omega)
          obtain ⟨hP, hcs, -⟩ := HQ2.out
          rw [List.append_nil] at hcs
          rw [hcs] at hP
          have FQ : Hid (WrS B q wr v4 (zs ++ progB x) ∧ FrQ B q w wr) := ⟨by rw [← HZT.out]; exact hP.wr, hP.fr⟩
          clear hP hcs HQ2
          go_wp2
          (try simp only [Exit.inBlock, Exit.then])
          refine bodyPost_end (results_noneQ (P := Tryz.prog) Tryz.results33 _ _) rfl ?_
          first | exact ⟨rfl, v4, FQ.out.1, FQ.out.2⟩ | exact ⟨rfl, ⟨v4, FQ.out.1⟩, FQ.out.2⟩

end Go.Proofs.YtpdkgmagjhibkaaGreatDoor.By
