/-
  Marks on events of our own, and what holds them. No statement is proved here.
-/
import Derived.Test.YtccnninmkfhejaaYMiAlso
namespace Go.Proofs.Ytccnninmkfhejaa.By
open Go.RowKit
set_option linter.unusedVariables false
set_option linter.unusedSimpArgs false

def evn : List REvent → Nat
  | [] => 0
  | x :: r => x.lit.length + 4 + evn r
def mk1 (k : Int) (y : REvent) : REvent := ⟨k, k + 1, k + 2, mkB (k + 3) y.lit.length, k + 3 + y.lit.length⟩
def mkV (k : Int) : List REvent → List REvent
  | [] => []
  | x :: r => mk1 k x :: mkV (k + (x.lit.length + 4 : Nat)) r
theorem evn_app : ∀ (P R : List REvent), evn (P ++ R) = evn P + evn R
  | [], R => by simp [evn]
  | x :: r, R => by simp only [List.cons_append, evn, evn_app r R]; omega
theorem mkV_app : ∀ (k : Int) (P : List REvent) (y : REvent), mkV k (P ++ [y]) = mkV k P ++ [mk1 (k + evn P) y]
  | k, [], y => by simp [mkV, evn]
  | k, x :: r, y => by
    simp only [List.cons_append, mkV, mkV_app (k + (x.lit.length + 4 : Nat)) r y, evn]
    rw [show k + ((x.lit.length + 4 : Nat) : Int) + (evn r : Int) = k + ((x.lit.length + 4 + evn r : Nat) : Int) by omega]
theorem evn_ge : ∀ (P : List REvent), P.length * 4 ≤ evn P
  | [] => Nat.le_refl _
  | x :: r => by have := evn_ge r; simp only [List.length_cons, evn]; omega
/-- A text's block alone has turned, and it lies outside. -/
theorem EvO.far {u z : World} {hi : Nat} {row : Option Nat} (hg : u.grownBy z row) : ∀ {xs : List REvent} {vs : List Value} {lo : Nat}, EvO u hi xs vs lo → (∀ g, row = some g → g < lo ∨ hi ≤ g) → EvO z hi xs vs lo
  | [], _, _, h, _ => h
  | x :: r, _, lo, ⟨a, l, c, mid, vs', e, ⟨ho, hb, hl⟩, hm, hlm, hr⟩, hn => by
    have hmh : mid ≤ hi := by
      have : ∀ {xs : List REvent} {vs : List Value} {lo : Nat}, EvO u hi xs vs lo → lo ≤ hi := fun {xs} => by
        induction xs with
        | nil => exact fun h => h.2
        | cons y r ih => exact fun ⟨_, _, _, _, _, _, _, _, h1, h2⟩ => Nat.le_trans h1 (ih h2)
      exact this hr
    refine ⟨a, l, c, mid, vs', e, ⟨ho.kept hg ?_, hb, hl⟩, hm, hlm, EvO.far hg hr fun g e => ?_⟩
    · rcases ho.2 with ⟨e1, -⟩ | ⟨g, cap, cur, e1, hb', hc', -⟩
      · left; rw [e1]; rfl
      · right; rw [e1]; intro e2
        have h1 := hn g e2.symm
        have h2 := hm g (by rw [e1]; rfl)
        omega
    · have := hn g e; omega
theorem rows_ne {w : World} {B B' : Nat} {t t' : TypeId} {s s' n n' : Nat} {v v' : Value} {zs zs' : List Value} (h : w.ownsRow B t s v n zs) (h' : w.ownsRow B' t' s' v' n' zs') (ht : t ≠ t') : v.ownBlock = none ∨ v.ownBlock ≠ v'.ownBlock := by
  rcases h.2 with ⟨rfl, -⟩ | ⟨g, cap, cur, rfl, -, hg, -⟩
  · left; rfl
  · right
    rcases h'.2 with ⟨rfl, -⟩ | ⟨g', cap', cur', rfl, -, hg', -⟩
    · simp [Value.ownBlock]
    · intro e
      have : g = g' := by simpa [Value.ownBlock] using e
      subst this
      rw [hg] at hg'; cases hg'; exact ht rfl
/-- Blocks of other types stand. -/
def Frm (w u : World) : Prop := ∀ (m : Nat) (cur : Array Value) (t : TypeId), w.heap[m]? = some (Obj.cells cur t (0, 0)) → t ≠ 36 → t ≠ 5 → u.heap[m]? = some (Obj.cells cur t (0, 0))
theorem Frm.trans {w u z : World} (h : Frm w u) (k : Frm u z) : Frm w z := fun m cur t hm h1 h2 => k m cur t (h m cur t hm h1 h2) h1 h2
theorem Frm.grown {w u : World} {row : Option Nat} (hg : w.grownBy u row) (hr : ∀ g, row = some g → ∃ cur t, w.heap[g]? = some (.cells cur t (0, 0)) ∧ (t = 36 ∨ t = 5)) : Frm w u := fun m cur t hm h1 h2 => (hg.block m (lt_of_block hm) (fun e => by
  obtain ⟨c', t', h3, h4⟩ := hr m e.symm
  rw [hm] at h3
  cases h3
  rcases h4 with h4 | h4
  · exact h1 h4
  · exact h2 h4)).trans hm
theorem row_blk {w : World} {B : Nat} {t : TypeId} {s n : Nat} {v : Value} {zs : List Value} (h : w.ownsRow B t s v n zs) : ∀ g, v.ownBlock = some g → B ≤ g ∧ ∃ cur, w.heap[g]? = some (.cells cur t (0, 0)) := fun g e => by
  rcases h.2 with ⟨rfl, -⟩ | ⟨g', cap, cur, rfl, hb, hg, -⟩
  · cases e
  · have : g' = g := by simpa [Value.ownBlock] using e
    subst this
    exact ⟨hb, cur, hg⟩

set_option maxRecDepth 8000 in
set_option maxHeartbeats 8000000 in
theorem markVs (xs : List REvent) (a : Option Addr) (n c B B' hi : Nat) (vs : List Value) (k0 : Int) (w : World) (h : w.ownsRow B 36 5 (.slice a n c) n vs) (hE : EvO w hi xs vs B') (hBB : B ≤ B') (hBw : B ≤ w.heap.size) (hn : evn xs ≤ 16777216) (hk0 : 0 ≤ k0) (hk1 : k0 ≤ 16777216) :
    Calls Try.prog 46 #[.slice a n c, .int .i64 k0] w fun e u => e = .returned (.int .i64 (k0 + evn xs)) ∧ (∃ us, u.ownsRow B 36 5 (.slice a n c) n us ∧ EvO u hi (mkV k0 xs) us B') ∧ Below B w u ∧ Frm w u := by
  have HR0 : Hid (w.ownsRow B 36 5 (.slice a n c) n vs ∧ EvO w hi xs vs B') := ⟨h, hE⟩
  have hxl : xs.length = n := by have := h.1; rw [hE.len] at this; omega
  have hlo : ∀ {u : World} {xs : List REvent} {vs : List Value} {lo : Nat}, EvO u hi xs vs lo → lo ≤ hi := fun {u xs} => by
    induction xs with
    | nil => exact fun h => h.2
    | cons y r ih => exact fun ⟨_, _, _, _, _, _, _, _, h1, h2⟩ => Nat.le_trans h1 (ih h2)
  have hn4 : n ≤ 4194304 := by have := evn_ge xs; omega
  have HLO : Hid (∀ {u : World} {xs : List REvent} {vs : List Value} {lo : Nat}, EvO u hi xs vs lo → lo ≤ hi) := hlo
  clear h hE hlo
  go_enter Try.func46, Try.ntmps46
  go_wp2
  go_loopw [1, 5] (fun v i wr => ∃ (j mi : Nat) (P R : List REvent) (Pv Rv : List Value), j ≤ n ∧ i = .int .i64 j ∧ v = .int .i64 (k0 + evn P) ∧ P ++ R = xs ∧ P.length = j ∧ Hid (wr.ownsRow B 36 5 (.slice a n c) n (Pv ++ Rv) ∧ EvO wr mi (mkV k0 P) Pv B' ∧ EvO wr hi R Rv mi ∧ Below B w wr ∧ Frm w wr)) (fun _ i _ => n - (intOf i).toNat)
  case atStart => exact ⟨0, B', [], xs, [], vs, Nat.zero_le _, rfl, by simp [evn], rfl, rfl, HR0.out.1, ⟨rfl, Nat.le_refl _⟩, HR0.out.2, Below.refl _ _, fun m cur t hm _ _ => hm⟩
  case round =>
    obtain ⟨j, mi, P, R, Pv, Rv, hj, rfl, rfl, hPR, hPl, HL⟩ := hrel
    by_cases hlt : j < n
    · obtain ⟨y, r, rfl⟩ : ∃ y r, R = y :: r := by
        cases R with
        | nil => have := congrArg List.length hPR; simp at this; omega
        | cons y r => exact ⟨y, r, rfl⟩
      obtain ⟨hrow, hP, ⟨ta, tl, tc, mid, Rv', rfl, ⟨ht, hby, htl⟩, hmid, hmm, hR⟩, hbl, hfr⟩ := HL.out
      have hyl : y.lit.length = tl := by have := ht.1; rw [vB_len] at this; omega
      have hPvl : Pv.length = j * 5 := by rw [hP.len]; have : (mkV k0 P).length = P.length := by
                                            have : ∀ (k : Int) (Q : List REvent), (mkV k Q).length = Q.length := fun k Q => by
                                              induction Q generalizing k with
                                              | nil => rfl
                                              | cons x r ih => simp [mkV, ih]
                                            exact this _ _
                                          omega
      have hev : evn xs = evn P + (y.lit.length + 4 + evn r) := by rw [← hPR, evn_app]; rfl
      obtain ⟨K, hK⟩ : ∃ K : Int, K = k0 + evn P := ⟨_, rfl⟩
      have hK0 : 0 ≤ K ∧ K ≤ 33554432 := by omega
      rw [← hK]
      obtain ⟨g, rfl, hbg, ⟨cur, hcur⟩, hcell⟩ : ∃ g, a = some ⟨g, 0, none⟩ ∧ B ≤ g ∧ (∃ cur, wr.heap[g]? = some (.cells cur 36 (0, 0))) ∧ ∀ i v, (Pv ++ ([Value.int .i64 y.cap, .int .i64 y.a, .int .i64 y.b, .slice ta tl tc, .int .i64 y.res] ++ Rv'))[i]? = some v → (hideZ wr B).cell? ⟨g, i, none⟩ = some v := by
        rcases row_cell hrow with h0 | h0
        · omega
        · exact h0
      have at_ : ∀ i v, ([Value.int .i64 y.cap, .int .i64 y.a, .int .i64 y.b, .slice ta tl tc, .int .i64 y.res] ++ Rv')[i]? = some v → wr.cell? ⟨g, j * 5 + i, none⟩ = some v := fun i v hv => CLe.unhidz _ _ (hcell _ _ (by rw [List.getElem?_append_right (by omega), hPvl, show j * 5 + i - j * 5 = i by omega]; exact hv))
      have c0 := at_ 0 _ rfl
      have c1 := at_ 1 _ rfl
      have c2 := at_ 2 _ rfl
      have c3 := at_ 3 _ rfl
      rw [Nat.add_zero] at c0
      have f0 := frozen_of_row wr g (j * 5) _ _ hcur
      have f1 := frozen_of_row wr g (j * 5 + 1) _ _ hcur
      have f2 := frozen_of_row wr g (j * 5 + 2) _ _ hcur
      have s1 := hrow.stored (j * 5) (.int .i64 K)
      have s2 := s1.1.stored (j * 5 + 1) (.int .i64 (K + 1))
      have s3 := s2.1.stored (j * 5 + 2) (.int .i64 (K + 1 + 1))
      have w1 : IntKind.i64.wrap (K + 1) = K + 1 := IntWalk.i64_in _ ⟨by omega, by omega⟩
      have w2 : IntKind.i64.wrap (K + 1 + 1) = K + 1 + 1 := IntWalk.i64_in _ ⟨by omega, by omega⟩
      have w3 : IntKind.i64.wrap (K + 1 + 1 + 1) = K + 1 + 1 + 1 := IntWalk.i64_in _ ⟨by omega, by omega⟩
      have hS : (((Pv ++ ([Value.int .i64 y.cap, .int .i64 y.a, .int .i64 y.b, .slice ta tl tc, .int .i64 y.res] ++ Rv')).set (j * 5) (.int .i64 K)).set (j * 5 + 1) (.int .i64 (K + 1))).set (j * 5 + 2) (.int .i64 (K + 1 + 1)) = Pv ++ ([Value.int .i64 K, .int .i64 (K + 1), .int .i64 (K + 1 + 1), .slice ta tl tc, .int .i64 y.res] ++ Rv') := by
        rw [List.set_append_right _ _ (by omega), List.set_append_right _ _ (by omega), List.set_append_right _ _ (by omega), hPvl, Nat.sub_self, show j * 5 + 1 - j * 5 = 1 by omega, show j * 5 + 2 - j * 5 = 2 by omega]
        rfl
      have G3 : wr.grownBy (((wr.setCell ⟨g, j * 5, none⟩ (.int .i64 K)).setCell ⟨g, j * 5 + 1, none⟩ (.int .i64 (K + 1))).setCell ⟨g, j * 5 + 2, none⟩ (.int .i64 (K + 1 + 1))) (some g) := grown_trans (grown_trans (grown_setCell _ _ _ _) (grown_setCell _ _ _ _)) (grown_setCell _ _ _ _)
      have hne5 : ∀ g', some g = some g' → ∀ cur, wr.heap[g']? ≠ some (.cells cur 5 (0, 0)) := fun g' e cur' e2 => by
        obtain rfl := Option.some.inj e
        rw [hcur] at e2; cases e2
      have L3 : Hid _ := And.intro (row_eq s3.1 hS) (And.intro (hP.kept G3 hne5) (And.intro (hR.kept G3 hne5) (And.intro (ht.kept G3 (row_ne ht hcur (by decide))) (And.intro (hbl.grown G3 (Nat.le_trans hBw hbl.size) (fun g' e => by cases e; exact hbg)) (hfr.trans (Frm.grown G3 (fun g' e => by cases e; exact ⟨cur, _, hcur, .inl rfl⟩)))))))
      have CB : Hid _ := markBs ta tl tc mi y.lit (K + 1 + 1 + 1) _ L3.out.2.2.2.1 (by omega) (by omega) (by omega)
      have HM : Hid (Byt y.lit ∧ tl ≤ 1048576 ∧ (∀ g, (Value.slice ta tl tc).ownBlock = some g → g < mid) ∧ mi ≤ mid ∧ P ++ y :: r = xs ∧ K = k0 + evn P) := ⟨hby, htl, hmid, hmm, hPR, hK⟩
      have hlen3 : g < wr.heap.size := lt_of_block hcur
      have hblz := hbl.size
      have hG3z := G3.size
      have HMI : Hid (B' ≤ mi) := (by
        have : ∀ {u : World} {hh : Nat} {xs : List REvent} {vs : List Value} {lo : Nat}, EvO u hh xs vs lo → lo ≤ hh := fun {u hh xs} => by
          induction xs with
          | nil => exact fun h => h.2
          | cons y r ih => exact fun ⟨_, _, _, _, _, _, _, _, h1, h2⟩ => Nat.le_trans h1 (ih h2)
        exact this hP)
      clear hrow hP ht hby hmid hmm hR hbl hfr hcell at_ s1 s2 s3 hS hne5 HL G3 hPR
      have HK0 : Hid (0 ≤ K ∧ K ≤ 33554432) := hK0
      have HBB : Hid (B ≤ (((wr.setCell ⟨g, j * 5, none⟩ (.int .i64 K)).setCell ⟨g, j * 5 + 1, none⟩ (.int .i64 (K + 1))).setCell ⟨g, j * 5 + 2, none⟩ (.int .i64 (K + 1 + 1))).heap.size) := Nat.le_trans (Nat.le_trans hBw hblz) hG3z
      clear hK hK0 hev HLO HR0 hblz hG3z
      go_upto_region 10 with fail
      clear c0 c1 c2 c3 f0 f1 f2
      generalize (((wr.setCell ⟨g, j * 5, none⟩ (.int .i64 K)).setCell ⟨g, j * 5 + 1, none⟩ (.int .i64 (K + 1))).setCell ⟨g, j * 5 + 2, none⟩ (.int .i64 (K + 1 + 1))) = z at *
      have c3 : z.cell? ⟨g, j * 5 + 3, none⟩ = some (.slice ta tl tc) := by
        rcases row_cell L3.out.1 with h0 | ⟨g', e, -, -, hc⟩
        · omega
        · cases e
          exact CLe.unhidz _ _ (hc _ _ (by rw [List.getElem?_append_right (by omega), hPvl, show j * 5 + 3 - j * 5 = 3 by omega]; rfl))
      go_wp2_with fail
      refine Calls.mono CB.out ?_
      rintro e u ⟨rfl, ht, hg⟩
      obtain ⟨hrow, hP, hR, ht0, hbl, hfr⟩ := L3.out
      have hrow2 := hrow.kept hg (rows_ne hrow ht0 (by decide))
      have hgt := row_blk ht0
      have hP2 := hP.far hg (fun g' e => .inr (hgt g' e).1)
      have hR2 := hR.far hg (fun g' e => .inl (HM.out.2.2.1 g' e))
      have hlt' := hlt
      obtain ⟨⟨cur2, hcur2⟩, hcell⟩ : (∃ cur, u.heap[g]? = some (.cells cur 36 (0, 0))) ∧ ∀ i v, (Pv ++ ([Value.int .i64 K, .int .i64 (K + 1), .int .i64 (K + 1 + 1), .slice ta tl tc, .int .i64 y.res] ++ Rv'))[i]? = some v → (hideZ u B).cell? ⟨g, i, none⟩ = some v := by
        rcases row_cell hrow2 with h0 | ⟨g', e, -, h1, h2⟩
        · omega
        · cases e; exact ⟨h1, h2⟩
      have c4 : u.cell? ⟨g, j * 5 + 4, none⟩ = some (.int .i64 y.res) := CLe.unhidz _ _ (hcell _ _ (by rw [List.getElem?_append_right (by omega), hPvl, show j * 5 + 4 - j * 5 = 4 by omega]; rfl))
      have f4 := frozen_of_row u g (j * 5 + 4) _ _ hcur2
      have s5 := hrow2.stored (j * 5 + 4) (.int .i64 (K + 1 + 1 + 1 + tl))
      have G5 := grown_setCell u g (j * 5 + 4) (.int .i64 (K + 1 + 1 + 1 + tl))
      have hS : (Pv ++ ([Value.int .i64 K, .int .i64 (K + 1), .int .i64 (K + 1 + 1), .slice ta tl tc, .int .i64 y.res] ++ Rv')).set (j * 5 + 4) (.int .i64 (K + 1 + 1 + 1 + tl)) = (Pv ++ [Value.int .i64 K, .int .i64 (K + 1), .int .i64 (K + 1 + 1), .slice ta tl tc, .int .i64 (K + 1 + 1 + 1 + tl)]) ++ Rv' := by
        rw [List.set_append_right _ _ (by omega), hPvl, show j * 5 + 4 - j * 5 = 4 by omega, List.append_assoc]
        rfl
      have hne5 : ∀ g', some g = some g' → ∀ cur, u.heap[g']? ≠ some (.cells cur 5 (0, 0)) := fun g' e cur' e2 => by
        obtain rfl := Option.some.inj e
        rw [hcur2] at e2; cases e2
      have hfrz := Frm.grown hg (fun g' e => by obtain ⟨-, cu, hcu⟩ := hgt g' e; exact ⟨cu, 5, hcu, .inr rfl⟩)
      have hfru := Frm.grown G5 (fun g' e => by cases e; exact ⟨cur2, 36, hcur2, .inl rfl⟩)
      have e1 : mk1 K y = ⟨K, K + 1, K + 1 + 1, mkB (K + 1 + 1 + 1) tl, K + 1 + 1 + 1 + tl⟩ := by
        unfold mk1; rw [hyl, show K + 2 = K + 1 + 1 by omega, show K + 3 = K + 1 + 1 + 1 by omega]
      have one : EvO (u.setCell ⟨g, j * 5 + 4, none⟩ (.int .i64 (K + 1 + 1 + 1 + tl))) mid [mk1 K y] [.int .i64 K, .int .i64 (K + 1), .int .i64 (K + 1 + 1), .slice ta tl tc, .int .i64 (K + 1 + 1 + 1 + tl)] mi := by
        rw [e1]
        exact ⟨ta, tl, tc, mid, [], rfl, ⟨ht.kept G5 (row_ne ht hcur2 (by decide)), mkB_byt _ _, htl⟩, HM.out.2.2.1, HM.out.2.2.2.1, rfl, Nat.le_refl _⟩
      have FQ : Hid (_ ∧ EvO _ mid (mkV k0 (P ++ [y])) _ B' ∧ _) := And.intro (row_eq s5.1 hS) (And.intro (by rw [mkV_app, ← HM.out.2.2.2.2.2]; exact EvO.app (hP2.kept G5 hne5) one) (And.intro (hR2.kept G5 hne5) (And.intro ((hbl.grown hg HBB.out (fun g' e => Nat.le_trans (Nat.le_trans hBB HMI.out) (hgt g' e).1)).grown G5 (Nat.le_trans HBB.out hg.size) (fun g' e => by cases e; exact hbg)) (hfr.trans (hfrz.trans hfru)))))
      have w5 : IntKind.i64.wrap (K + 1 + 1 + 1 + tl + 1) = K + 1 + 1 + 1 + tl + 1 := IntWalk.i64_in _ ⟨by have := HK0.out; omega, by have := HK0.out; omega⟩
      have HE : Hid (K + 1 + 1 + 1 + (tl : Int) + 1 = k0 + (evn (P ++ [y]) : Nat)) := by
        show _ = _
        have := HM.out.2.2.2.2.2
        rw [evn_app]; simp only [evn]; omega
      clear hrow hP hR ht0 hbl hfr hrow2 hgt hP2 hR2 hcell s5 G5 hS hne5 hfrz hfru e1 one CB L3 ht hg c3
      simp only []
      go_wp2
      go_roundw
      case rel =>
        refine ⟨j + 1, mid, P ++ [y], r, _, Rv', by omega, by go_num, ?_, by rw [List.append_assoc]; exact HM.out.2.2.2.2.1, by simp [hPl], FQ.out⟩
        rw [← HE.out]
      case measure => simp [intOf]; omega
    · obtain rfl : j = n := by omega
      have hR0 : R = [] := by
        have := congrArg List.length hPR
        simp at this
        exact List.eq_nil_of_length_eq_zero (by omega)
      subst hR0
      rw [List.append_nil] at hPR
      subst hPR
      obtain ⟨h1, h2, ⟨rfl, h3⟩, h4, h5⟩ := HL.out
      rw [List.append_nil] at h1
      have FQ : Hid _ := And.intro (⟨Pv, h1, h2.mono h3⟩ : ∃ us, wr.ownsRow B 36 5 (.slice a j c) j us ∧ EvO wr hi (mkV k0 P) us B') (And.intro h4 h5)
      clear HL h1 h2 h4 h5 HLO HR0
      go_wp2
      go_ret
      exact ⟨rfl, FQ.out⟩
end Go.Proofs.Ytccnninmkfhejaa.By
