/-
  Tokens of our own, and marks on them. No statement is proved here.
-/
import Derived.Test.YtaecnhmegdeicaaDoorXB0
import Derived.Test.YtaecnhmegdeicaaDoorSTokens
namespace Go.Proofs.YtaecnhmegdeicaaDoor.By
open Go.RowKit
set_option linter.unusedVariables false
set_option linter.unusedSimpArgs false

/-- The cells of events of our own: each text in a block of its own, in order, from lo on and below hi. -/
def TkO (u : World) (hi : Nat) : List RToken → List Value → Nat → Prop
  | [], vs, lo => vs = [] ∧ lo ≤ hi
  | x :: r, vs, lo => ∃ a l c mid vs', vs = [.int .i64 x.kind, .int .i64 x.pos, .int .i64 x.n, .slice a l c] ++ vs' ∧ (u.ownsRow lo 5 1 (.slice a l c) l (vB x.text) ∧ Byt x.text ∧ l ≤ 1048576) ∧ (∀ g, (Value.slice a l c).ownBlock = some g → g < mid) ∧ lo ≤ mid ∧ TkO u hi r vs' mid
theorem TkO.kept {u z : World} {hi : Nat} {row : Option Nat} (hg : u.grownBy z row) : ∀ {xs : List RToken} {vs : List Value} {lo : Nat}, TkO u hi xs vs lo → (∀ g, row = some g → ∀ cur, u.heap[g]? ≠ some (.cells cur 5 (0, 0))) → TkO z hi xs vs lo
  | [], _, _, h, _ => h
  | x :: r, _, _, ⟨a, l, c, mid, vs', e, ⟨ho, hb, hl⟩, hm, hlm, hr⟩, hn => by
    refine ⟨a, l, c, mid, vs', e, ⟨ho.kept hg ?_, hb, hl⟩, hm, hlm, TkO.kept hg hr hn⟩
    rcases ho.2 with ⟨e1, -⟩ | ⟨g, cap, cur, e1, -, hb', -⟩
    · left; rw [e1]; rfl
    · right; rw [e1]; intro e2; exact hn g e2.symm cur hb'
theorem TkO.none {u z : World} {hi : Nat} (hg : u.grownBy z Option.none) {xs : List RToken} {vs : List Value} {lo : Nat} (h : TkO u hi xs vs lo) : TkO z hi xs vs lo := h.kept hg (fun g e => by cases e)
theorem TkO.mono {u : World} {hi hi' : Nat} (hh : hi ≤ hi') : ∀ {xs : List RToken} {vs : List Value} {lo : Nat}, TkO u hi xs vs lo → TkO u hi' xs vs lo
  | [], _, _, h => ⟨h.1, Nat.le_trans h.2 hh⟩
  | x :: r, _, _, ⟨a, l, c, mid, vs', e, ho, hm, hlm, hr⟩ => ⟨a, l, c, mid, vs', e, ho, hm, hlm, TkO.mono hh hr⟩
theorem TkO.len {u : World} {hi : Nat} : ∀ {xs : List RToken} {vs : List Value} {lo : Nat}, TkO u hi xs vs lo → vs.length = xs.length * 4
  | [], vs, _, h => by rw [h.1]; rfl
  | x :: r, vs, _, ⟨a, l, c, mid, vs', e, ho, hm, hlm, hr⟩ => by have := TkO.len hr; rw [e]; simp only [List.length_append, List.length_cons, List.length_nil]; omega
theorem TkO.app {u : World} {mi hi : Nat} : ∀ {xs ys : List RToken} {vs us : List Value} {lo : Nat}, TkO u mi xs vs lo → TkO u hi ys us mi → TkO u hi (xs ++ ys) (vs ++ us) lo
  | [], ys, vs, us, lo, h, k => by
    rw [h.1]
    cases ys with
    | nil => exact ⟨k.1, Nat.le_trans h.2 k.2⟩
    | cons y r =>
      obtain ⟨a, l, c, mid, vs', e, ⟨ho, hb, hl⟩, hm, hlm, hr⟩ := k
      exact ⟨a, l, c, mid, vs', e, ⟨Go.Joins.ownsRow_le ho h.2, hb, hl⟩, hm, Nat.le_trans h.2 hlm, hr⟩
  | x :: r, ys, vs, us, lo, ⟨a, l, c, mid, vs', e, ho, hm, hlm, hr⟩, k => ⟨a, l, c, mid, vs' ++ us, by rw [e, List.append_assoc], ho, hm, hlm, TkO.app hr k⟩
theorem inToken_of {w u : World} {hi B : Nat} : ∀ {xs : List RToken} {vs : List Value} {lo b o : Nat}, TkO u hi xs vs lo → B ≤ lo → (∀ j x, vs[j]? = some x → w.cell? ⟨b, o + j, none⟩ = some x) → InToken w (hideZ u B) xs b o
  | [], _, _, _, _, _, _, _ => trivial
  | x :: r, vs, lo, b, o, ⟨a, l, c, mid, vs', e, ⟨ho, hb, hl⟩, hm, hlm, hr⟩, hB, h => by
    subst e
    refine ⟨⟨a, l, c, ⟨by simpa using h 0 _ rfl, h 1 _ rfl, h 2 _ rfl, h 3 _ rfl⟩, own_rdB (Go.Joins.ownsRow_le ho hB) hb (by omega)⟩, inToken_of hr (by omega) fun j y hj => ?_⟩
    have := h (j + 4) y (by simpa using hj)
    rw [show o + 4 + j = o + (j + 4) by omega]; exact this
theorem own_slT {u : World} {hi B : Nat} {a : Option Addr} {l c : Nat} {xs : List RToken} {vs : List Value} (h : u.ownsRow B 33 4 (.slice a l c) l vs) (ho : TkO u hi xs vs B) (hl : l ≤ 9223372036854775807) : SlToken (hideZ u B) a l xs := by
  have hz : xs.length = l := by have := h.1; rw [ho.len] at this; omega
  refine ⟨hz, hl, ?_⟩
  rcases row_cell h with h0 | ⟨g, e, hb, -, hc⟩
  · exact .inl h0
  · exact .inr ⟨g, 0, e, inToken_of ho (Nat.le_refl _) fun j x hj => by rw [Nat.zero_add]; exact hc j x hj⟩
def tkn : List RToken → Nat
  | [] => 0
  | x :: r => x.text.length + 3 + tkn r
def mt1 (k : Int) (y : RToken) : RToken := ⟨k, k + 1, k + 2, mkB (k + 3) y.text.length⟩
def mkT (k : Int) : List RToken → List RToken
  | [] => []
  | x :: r => mt1 k x :: mkT (k + (x.text.length + 3 : Nat)) r
theorem mkT_len : ∀ (k : Int) (Q : List RToken), (mkT k Q).length = Q.length
  | k, [] => rfl
  | k, x :: r => by simp [mkT, mkT_len _ r]
theorem tkn_app : ∀ (P R : List RToken), tkn (P ++ R) = tkn P + tkn R
  | [], R => by simp [tkn]
  | x :: r, R => by simp only [List.cons_append, tkn, tkn_app r R]; omega
theorem mkT_app : ∀ (k : Int) (P : List RToken) (y : RToken), mkT k (P ++ [y]) = mkT k P ++ [mt1 (k + tkn P) y]
  | k, [], y => by simp [mkT, tkn]
  | k, x :: r, y => by
    simp only [List.cons_append, mkT, mkT_app (k + (x.text.length + 3 : Nat)) r y, tkn]
    rw [show k + ((x.text.length + 3 : Nat) : Int) + (tkn r : Int) = k + ((x.text.length + 3 + tkn r : Nat) : Int) by omega]
theorem tkn_ge : ∀ (P : List RToken), P.length * 3 ≤ tkn P
  | [] => Nat.le_refl _
  | x :: r => by have := tkn_ge r; simp only [List.length_cons, tkn]; omega
/-- A text's block alone has turned, and it lies outside. -/
theorem TkO.far {u z : World} {hi : Nat} {row : Option Nat} (hg : u.grownBy z row) : ∀ {xs : List RToken} {vs : List Value} {lo : Nat}, TkO u hi xs vs lo → (∀ g, row = some g → g < lo ∨ hi ≤ g) → TkO z hi xs vs lo
  | [], _, _, h, _ => h
  | x :: r, _, lo, ⟨a, l, c, mid, vs', e, ⟨ho, hb, hl⟩, hm, hlm, hr⟩, hn => by
    have hmh : mid ≤ hi := by
      have : ∀ {xs : List RToken} {vs : List Value} {lo : Nat}, TkO u hi xs vs lo → lo ≤ hi := fun {xs} => by
        induction xs with
        | nil => exact fun h => h.2
        | cons y r ih => exact fun ⟨_, _, _, _, _, _, _, _, h1, h2⟩ => Nat.le_trans h1 (ih h2)
      exact this hr
    refine ⟨a, l, c, mid, vs', e, ⟨ho.kept hg ?_, hb, hl⟩, hm, hlm, TkO.far hg hr fun g e => ?_⟩
    · rcases ho.2 with ⟨e1, -⟩ | ⟨g, cap, cur, e1, hb', hc', -⟩
      · left; rw [e1]; rfl
      · right; rw [e1]; intro e2
        have h1 := hn g e2.symm
        have h2 := hm g (by rw [e1]; rfl)
        omega
    · have := hn g e; omega
/-- Blocks of other types stand. -/
def FrT (w u : World) : Prop := ∀ (m : Nat) (cur : Array Value) (t : TypeId), w.heap[m]? = some (Obj.cells cur t (0, 0)) → t ≠ 33 → t ≠ 5 → u.heap[m]? = some (Obj.cells cur t (0, 0))
theorem FrT.trans {w u z : World} (h : FrT w u) (k : FrT u z) : FrT w z := fun m cur t hm h1 h2 => k m cur t (h m cur t hm h1 h2) h1 h2
theorem FrT.grown {w u : World} {row : Option Nat} (hg : w.grownBy u row) (hr : ∀ g, row = some g → ∃ cur t, w.heap[g]? = some (.cells cur t (0, 0)) ∧ (t = 33 ∨ t = 5)) : FrT w u := fun m cur t hm h1 h2 => (hg.block m (lt_of_block hm) (fun e => by
  obtain ⟨c', t', h3, h4⟩ := hr m e.symm
  rw [hm] at h3
  cases h3
  rcases h4 with h4 | h4
  · exact h1 h4
  · exact h2 h4)).trans hm

set_option maxRecDepth 8000 in
set_option maxHeartbeats 8000000 in
theorem markTs (xs : List RToken) (a : Option Addr) (n c B B' hi : Nat) (vs : List Value) (k0 : Int) (w : World) (h : w.ownsRow B 33 4 (.slice a n c) n vs) (hE : TkO w hi xs vs B') (hBB : B ≤ B') (hBw : B ≤ w.heap.size) (hn : tkn xs ≤ 12000000) (hk0 : 0 ≤ k0) (hk1 : k0 ≤ 16777216) :
    Calls Tryd.prog 10 #[.slice a n c, .int .i64 k0] w fun e u => e = .returned (.int .i64 (k0 + tkn xs)) ∧ (∃ us, u.ownsRow B 33 4 (.slice a n c) n us ∧ TkO u hi (mkT k0 xs) us B') ∧ Below B w u ∧ FrT w u := by
  have HR0 : Hid (w.ownsRow B 33 4 (.slice a n c) n vs ∧ TkO w hi xs vs B') := ⟨h, hE⟩
  have hxl : xs.length = n := by have := h.1; rw [hE.len] at this; omega
  have hlo : ∀ {u : World} {xs : List RToken} {vs : List Value} {lo : Nat}, TkO u hi xs vs lo → lo ≤ hi := fun {u xs} => by
    induction xs with
    | nil => exact fun h => h.2
    | cons y r ih => exact fun ⟨_, _, _, _, _, _, _, _, h1, h2⟩ => Nat.le_trans h1 (ih h2)
  have hn4 : n ≤ 4194304 := by have := tkn_ge xs; omega
  have HLO : Hid (∀ {u : World} {xs : List RToken} {vs : List Value} {lo : Nat}, TkO u hi xs vs lo → lo ≤ hi) := hlo
  clear h hE hlo
  go_enter Tryd.func10, Tryd.ntmps10
  go_wp2
  go_loopw [1, 5] (fun v i wr => ∃ (j mi : Nat) (P R : List RToken) (Pv Rv : List Value), j ≤ n ∧ i = .int .i64 j ∧ v = .int .i64 (k0 + tkn P) ∧ P ++ R = xs ∧ P.length = j ∧ Hid (wr.ownsRow B 33 4 (.slice a n c) n (Pv ++ Rv) ∧ TkO wr mi (mkT k0 P) Pv B' ∧ TkO wr hi R Rv mi ∧ Below B w wr ∧ FrT w wr)) (fun _ i _ => n - (intOf i).toNat)
  case atStart => exact ⟨0, B', [], xs, [], vs, Nat.zero_le _, rfl, by simp [tkn], rfl, rfl, HR0.out.1, ⟨rfl, Nat.le_refl _⟩, HR0.out.2, Below.refl _ _, fun m cur t hm _ _ => hm⟩
  case round =>
    obtain ⟨j, mi, P, R, Pv, Rv, hj, rfl, rfl, hPR, hPl, HL⟩ := hrel
    by_cases hlt : j < n
    · obtain ⟨y, r, rfl⟩ : ∃ y r, R = y :: r := by
        cases R with
        | nil => have := congrArg List.length hPR; simp at this; omega
        | cons y r => exact ⟨y, r, rfl⟩
      obtain ⟨hrow, hP, ⟨ta, tl, tc, mid, Rv', rfl, ⟨ht, hby, htl⟩, hmid, hmm, hR⟩, hbl, hfr⟩ := HL.out
      have hyl : y.text.length = tl := by have := ht.1; rw [vB_len] at this; omega
      have hPvl : Pv.length = j * 4 := by rw [hP.len]; have : (mkT k0 P).length = P.length := by
                                            have : ∀ (k : Int) (Q : List RToken), (mkT k Q).length = Q.length := fun k Q => by
                                              induction Q generalizing k with
                                              | nil => rfl
                                              | cons x r ih => simp [mkT, ih]
                                            exact this _ _
                                          omega
      have hev : tkn xs = tkn P + (y.text.length + 3 + tkn r) := by rw [← hPR, tkn_app]; rfl
      obtain ⟨K, hK⟩ : ∃ K : Int, K = k0 + tkn P := ⟨_, rfl⟩
      have hK0 : 0 ≤ K ∧ K ≤ 33554432 := by omega
      rw [← hK]
      obtain ⟨g, rfl, hbg, ⟨cur, hcur⟩, hcell⟩ : ∃ g, a = some ⟨g, 0, none⟩ ∧ B ≤ g ∧ (∃ cur, wr.heap[g]? = some (.cells cur 33 (0, 0))) ∧ ∀ i v, (Pv ++ ([Value.int .i64 y.kind, .int .i64 y.pos, .int .i64 y.n, .slice ta tl tc] ++ Rv'))[i]? = some v → (hideZ wr B).cell? ⟨g, i, none⟩ = some v := by
        rcases row_cell hrow with h0 | h0
        · omega
        · exact h0
      have at_ : ∀ i v, ([Value.int .i64 y.kind, .int .i64 y.pos, .int .i64 y.n, .slice ta tl tc] ++ Rv')[i]? = some v → wr.cell? ⟨g, j * 4 + i, none⟩ = some v := fun i v hv => CLe.unhidz _ _ (hcell _ _ (by rw [List.getElem?_append_right (by omega), hPvl, show j * 4 + i - j * 4 = i by omega]; exact hv))
      have c0 := at_ 0 _ rfl
      have c1 := at_ 1 _ rfl
      have c2 := at_ 2 _ rfl
      have c3 := at_ 3 _ rfl
      rw [Nat.add_zero] at c0
      have f0 := frozen_of_row wr g (j * 4) _ _ hcur
      have f1 := frozen_of_row wr g (j * 4 + 1) _ _ hcur
      have f2 := frozen_of_row wr g (j * 4 + 2) _ _ hcur
      have s1 := hrow.stored (j * 4) (.int .i64 K)
      have s2 := s1.1.stored (j * 4 + 1) (.int .i64 (K + 1))
      have s3 := s2.1.stored (j * 4 + 2) (.int .i64 (K + 1 + 1))
      have w1 : IntKind.i64.wrap (K + 1) = K + 1 := IntWalk.i64_in _ ⟨by omega, by omega⟩
      have w2 : IntKind.i64.wrap (K + 1 + 1) = K + 1 + 1 := IntWalk.i64_in _ ⟨by omega, by omega⟩
      have w3 : IntKind.i64.wrap (K + 1 + 1 + 1) = K + 1 + 1 + 1 := IntWalk.i64_in _ ⟨by omega, by omega⟩
      have hS : (((Pv ++ ([Value.int .i64 y.kind, .int .i64 y.pos, .int .i64 y.n, .slice ta tl tc] ++ Rv')).set (j * 4) (.int .i64 K)).set (j * 4 + 1) (.int .i64 (K + 1))).set (j * 4 + 2) (.int .i64 (K + 1 + 1)) = Pv ++ ([Value.int .i64 K, .int .i64 (K + 1), .int .i64 (K + 1 + 1), .slice ta tl tc] ++ Rv') := by
        rw [List.set_append_right _ _ (by omega), List.set_append_right _ _ (by omega), List.set_append_right _ _ (by omega), hPvl, Nat.sub_self, show j * 4 + 1 - j * 4 = 1 by omega, show j * 4 + 2 - j * 4 = 2 by omega]
        rfl
      have G3 : wr.grownBy (((wr.setCell ⟨g, j * 4, none⟩ (.int .i64 K)).setCell ⟨g, j * 4 + 1, none⟩ (.int .i64 (K + 1))).setCell ⟨g, j * 4 + 2, none⟩ (.int .i64 (K + 1 + 1))) (some g) := grown_trans (grown_trans (grown_setCell _ _ _ _) (grown_setCell _ _ _ _)) (grown_setCell _ _ _ _)
      have hne5 : ∀ g', some g = some g' → ∀ cur, wr.heap[g']? ≠ some (.cells cur 5 (0, 0)) := fun g' e cur' e2 => by
        obtain rfl := Option.some.inj e
        rw [hcur] at e2; cases e2
      have L3 : Hid _ := And.intro (row_eq s3.1 hS) (And.intro (hP.kept G3 hne5) (And.intro (hR.kept G3 hne5) (And.intro (ht.kept G3 (row_ne ht hcur (by decide))) (And.intro (hbl.grown G3 (Nat.le_trans hBw hbl.size) (fun g' e => by cases e; exact hbg)) (hfr.trans (FrT.grown G3 (fun g' e => by cases e; exact ⟨cur, _, hcur, .inl rfl⟩)))))))
      have CB : Hid _ := markBs ta tl tc mi y.text (K + 1 + 1 + 1) _ L3.out.2.2.2.1 (by omega) (by omega) (by omega)
      have HM : Hid (Byt y.text ∧ tl ≤ 1048576 ∧ (∀ g, (Value.slice ta tl tc).ownBlock = some g → g < mid) ∧ mi ≤ mid ∧ P ++ y :: r = xs ∧ K = k0 + tkn P) := ⟨hby, htl, hmid, hmm, hPR, hK⟩
      have hlen3 : g < wr.heap.size := lt_of_block hcur
      have hblz := hbl.size
      have hG3z := G3.size
      have HMI : Hid (B' ≤ mi) := (by
        have : ∀ {u : World} {hh : Nat} {xs : List RToken} {vs : List Value} {lo : Nat}, TkO u hh xs vs lo → lo ≤ hh := fun {u hh xs} => by
          induction xs with
          | nil => exact fun h => h.2
          | cons y r ih => exact fun ⟨_, _, _, _, _, _, _, _, h1, h2⟩ => Nat.le_trans h1 (ih h2)
        exact this hP)
      clear hrow hP ht hby hmid hmm hR hbl hfr hcell at_ s1 s2 s3 hS hne5 HL G3 hPR
      have HK0 : Hid (0 ≤ K ∧ K ≤ 33554432) := hK0
      have HBB : Hid (B ≤ (((wr.setCell ⟨g, j * 4, none⟩ (.int .i64 K)).setCell ⟨g, j * 4 + 1, none⟩ (.int .i64 (K + 1))).setCell ⟨g, j * 4 + 2, none⟩ (.int .i64 (K + 1 + 1))).heap.size) := Nat.le_trans (Nat.le_trans hBw hblz) hG3z
      clear hK hK0 hev HLO HR0 hblz hG3z
      go_upto_region 10 with fail
      clear c0 c1 c2 c3 f0 f1 f2
      generalize (((wr.setCell ⟨g, j * 4, none⟩ (.int .i64 K)).setCell ⟨g, j * 4 + 1, none⟩ (.int .i64 (K + 1))).setCell ⟨g, j * 4 + 2, none⟩ (.int .i64 (K + 1 + 1))) = z at *
      have c3 : z.cell? ⟨g, j * 4 + 3, none⟩ = some (.slice ta tl tc) := by
        rcases row_cell L3.out.1 with h0 | ⟨g', e, -, -, hc⟩
        · omega
        · cases e
          exact CLe.unhidz _ _ (hc _ _ (by rw [List.getElem?_append_right (by omega), hPvl, show j * 4 + 3 - j * 4 = 3 by omega]; rfl))
      go_wp2_with fail
      refine Calls.mono CB.out ?_
      rintro e u ⟨rfl, ht, hg⟩
      obtain ⟨hrow, hP, hR, ht0, hbl, hfr⟩ := L3.out
      have hrow2 := hrow.kept hg (rows_ne hrow ht0 (by decide))
      have hgt := row_blk ht0
      have hP2 := hP.far hg (fun g' e => .inr (hgt g' e).1)
      have hR2 := hR.far hg (fun g' e => .inl (HM.out.2.2.1 g' e))
      have hlt' := hlt
      have hfrz := FrT.grown hg (fun g' e => by obtain ⟨-, cu, hcu⟩ := hgt g' e; exact ⟨cu, 5, hcu, .inr rfl⟩)
      have e1 : mt1 K y = ⟨K, K + 1, K + 1 + 1, mkB (K + 1 + 1 + 1) tl⟩ := by
        unfold mt1; rw [hyl, show K + 2 = K + 1 + 1 by omega, show K + 3 = K + 1 + 1 + 1 by omega]
      have one : TkO u mid [mt1 K y] [.int .i64 K, .int .i64 (K + 1), .int .i64 (K + 1 + 1), .slice ta tl tc] mi := by
        rw [e1]
        exact ⟨ta, tl, tc, mid, [], rfl, ⟨ht, mkB_byt _ _, htl⟩, HM.out.2.2.1, HM.out.2.2.2.1, rfl, Nat.le_refl _⟩
      have FQ : Hid (_ ∧ TkO _ mid (mkT k0 (P ++ [y])) _ B' ∧ _) := And.intro (row_eq hrow2 (show Pv ++ ([Value.int .i64 K, .int .i64 (K + 1), .int .i64 (K + 1 + 1), .slice ta tl tc] ++ Rv') = (Pv ++ [Value.int .i64 K, .int .i64 (K + 1), .int .i64 (K + 1 + 1), .slice ta tl tc]) ++ Rv' by rw [List.append_assoc])) (And.intro (by rw [mkT_app, ← HM.out.2.2.2.2.2]; exact TkO.app hP2 one) (And.intro hR2 (And.intro (hbl.grown hg HBB.out (fun g' e => Nat.le_trans (Nat.le_trans hBB HMI.out) (hgt g' e).1)) (hfr.trans hfrz))))
      have HE : Hid (K + 1 + 1 + 1 + (tl : Int) = k0 + (tkn (P ++ [y]) : Nat)) := by
        show _ = _
        have := HM.out.2.2.2.2.2
        rw [tkn_app]; simp only [tkn]; omega
      clear hrow hP hR ht0 hbl hfr hrow2 hgt hP2 hR2 hfrz e1 one CB L3 ht hg c3
      simp only []
      go_wp2
      go_roundw
      case rel =>
        refine ⟨j + 1, mid, P ++ [y], r, _, Rv', by omega, by go_num, ?_, by rw [List.append_assoc]; exact HM.out.2.2.2.2.1, by simp [hPl], FQ.out⟩
        rw [← HE.out]
      case measure => simp [intOf]; omega
    · obtain rfl : j = n := by omega
      have hR0 : R = [] := by
        have := congrArg List.length hPR
        simp at this
        exact List.eq_nil_of_length_eq_zero (by omega)
      subst hR0
      rw [List.append_nil] at hPR
      subst hPR
      obtain ⟨h1, h2, ⟨rfl, h3⟩, h4, h5⟩ := HL.out
      rw [List.append_nil] at h1
      have FQ : Hid _ := And.intro (⟨Pv, h1, h2.mono h3⟩ : ∃ us, wr.ownsRow B 33 4 (.slice a j c) j us ∧ TkO wr hi (mkT k0 P) us B') (And.intro h4 h5)
      clear HL h1 h2 h4 h5 HLO HR0
      go_wp2
      go_ret
      exact ⟨rfl, FQ.out⟩
end Go.Proofs.YtaecnhmegdeicaaDoor.By
