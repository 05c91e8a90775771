/-
  The closure that resolves, by its contract. No statement is proved here.
-/
import Derived.Test.YtmlganaiajhjeaaURAlso
import Derived.Test.YtmlganaiajhjeaaUI
import Derived.Test.YtmlganaiajhjeaaTPush
import Derived.Deep.DeepCutAuto
namespace Go.Proofs.Ytmlganaiajhjeaa.By
open Go.RowKit
set_option linter.unusedVariables false
set_option linter.unusedSimpArgs false

theorem BS.row {B0 : Nat} {w u : World} {p m rm : Nat} {oa : Option Addr} {oc : Nat} {L : B} (h : BS B0 w p m oa oc L) (hg : w.grownBy u (some rm)) {cur : Array Value} (hr : w.heap[rm]? = some (.cells cur 3 (0, 0))) (hne : ∀ g, (Value.slice oa L.len oc).ownBlock = some g → g ≠ rm) : BS B0 u p m oa oc L := by
  obtain ⟨h1, h2, ⟨T, h3, h4⟩, h5, h6, h7⟩ := h
  obtain ⟨es, clock, hm⟩ := h3.isMap
  refine ⟨(hg.block p (lt_of_block h1) (fun e => by cases e; rw [h1] at hr; cases hr)).trans h1, ?_, ⟨T, h3.of (hg.block m h3.lt (fun e => by cases e; rw [hm] at hr; cases hr)), h4.fix fun i cur' hc => hg.block i (lt_of_block hc) (fun e => by cases e; rw [hc] at hr; cases hr)⟩, h5, h6, Nat.le_trans h7 hg.size⟩
  exact h2.of (fun g cur' hc he => hg.block g (lt_of_block hc) (fun e => hne g he.symm (by injection e)))
/-- What the closure sees. -/
structure Ev (B0 : Nat) (w : World) (sb wk rm p m : Nat) (oa : Option Addr) (oc : Nat) (L : B) (room : Nat) : Prop where
  bs : BS B0 w p m oa oc L
  sB : w.heap[sb]? = some (.cells #[.pointer (some ⟨p, 0, none⟩)] 79 (0, 0))
  wB : w.heap[wk]? = some (.cells #[.func (Fn.func 78) #[] #[.pointer (some ⟨sb, 0, none⟩), .pointer (some ⟨wk, 0, none⟩), .pointer (some ⟨rm, 0, none⟩)]] 115 (0, 0))
  rB : w.heap[rm]? = some (.cells #[.int .i64 room] 3 (0, 0))
  far : ∀ g, (Value.slice oa L.len oc).ownBlock = some g → g ≠ rm
theorem Ev.none {B0 : Nat} {w u : World} {sb wk rm p m : Nat} {oa : Option Addr} {oc : Nat} {L : B} {room : Nat} (h : Ev B0 w sb wk rm p m oa oc L room) (hg : w.grownBy u Option.none) : Ev B0 u sb wk rm p m oa oc L room :=
  ⟨h.bs.none hg, (hg.block _ (lt_of_block h.sB) (by simp)).trans h.sB, (hg.block _ (lt_of_block h.wB) (by simp)).trans h.wB, (hg.block _ (lt_of_block h.rB) (by simp)).trans h.rB, h.far⟩
theorem Ev.turn {B0 : Nat} {w u : World} {sb wk rm p m : Nat} {oa : Option Addr} {oc : Nat} {L : B} {room room' : Nat} (h : Ev B0 w sb wk rm p m oa oc L room) (hg : w.grownBy u (some rm)) (hr : u.heap[rm]? = some (.cells #[.int .i64 room'] 3 (0, 0))) : Ev B0 u sb wk rm p m oa oc L room' :=
  ⟨h.bs.row hg h.rB h.far, (hg.block _ (lt_of_block h.sB) (fun e => by have e1 : sb = rm := (by injection e); subst e1; have := h.sB.symm.trans h.rB; cases this)).trans h.sB, (hg.block _ (lt_of_block h.wB) (fun e => by have e1 : wk = rm := (by injection e); subst e1; have := h.wB.symm.trans h.rB; cases this)).trans h.wB, hr, h.far⟩
theorem one1 {w : World} {g : Nat} {t : TypeId} {c0 : Value} (h : w.heap[g]? = some (.cells #[c0] t (0, 0))) : w.cell? ⟨g, 0, none⟩ = some c0 ∧ w.frozen? ⟨g, 0, none⟩ = false := by
  refine ⟨?_, frozen_of_row w g _ _ t h⟩
  rw [cell_of_row w g _ _ t (0, 0) h]; rfl
/-- What the closure answers. -/
def WP (L : B) (rm : Nat) (w : World) (k n : Int) (d : F) (depth room : Nat) (e : Ending) (u : World) : Prop :=
  w.grownBy u (some rm) ∧ (if wOk L k n d depth room = true then ∃ a' c' bs, e = .returned (.tuple #[.agg #[.int .i64 (rsT L (k, n, d)).1, .int .i64 (rsT L (k, n, d)).2.1, .slice a' (rsT L (k, n, d)).2.2.len c'], .bool true]) ∧ u.heap[rm]? = some (.cells #[.int .i64 ((room - (1 + (rsT L (k, n, d)).2.2.size) : Nat) : Int)] 3 (0, 0)) ∧ New w u 25 a' (rsT L (k, n, d)).2.2.len c' (rsT L (k, n, d)).2.2 bs ∧ (c' = 0 → a' = none)
    else e = .returned (.tuple #[.agg #[.int .i64 0, .int .i64 0, .slice none 0 0], .bool false]))

/-- What is held while a variable is followed. -/
def SA (wk sb rm p m q N : Nat) (k n : Int) (a : Option Addr) (l c : Nat) (T : Int → Option Value) (u : World) : Prop :=
  u.cell? ⟨wk, 0, none⟩ = some (.func (Fn.func 78) #[] #[.pointer (some ⟨sb, 0, none⟩), .pointer (some ⟨wk, 0, none⟩), .pointer (some ⟨rm, 0, none⟩)]) ∧ u.cell? ⟨sb, 0, none⟩ = some (.pointer (some ⟨p, 0, none⟩)) ∧ u.cell? ⟨p, 0, none⟩ = some (.map (some m)) ∧ Tri q 0 (.int .i64 k) (.int .i64 n) (.slice a l c) u ∧ MapIs u m N T
theorem SA.row {wk sb rm p m q N r : Nat} {k n : Int} {a : Option Addr} {l c : Nat} {T : Int → Option Value} {w u : World} (h : SA wk sb rm p m q N k n a l c T w) (hg : w.grownBy u (some r)) (hne : wk ≠ r ∧ sb ≠ r ∧ p ≠ r ∧ q ≠ r ∧ m ≠ r) : SA wk sb rm p m q N k n a l c T u := by
  obtain ⟨n1, n2, n3, n4, n5⟩ := hne
  obtain ⟨h1, h2, h3, ⟨h4, h5, h6⟩, h7⟩ := h
  exact ⟨hg.cell h1 (by simpa using n1), hg.cell h2 (by simpa using n2), hg.cell h3 (by simpa using n3), ⟨hg.cell h4 (by simpa using n4), hg.cell h5 (by simpa using n4), hg.cell h6 (by simpa using n4)⟩, h7.kept hg (by simpa using n5)⟩
theorem grownWeak {a b : World} (h : a.grownBy b none) (r : Option Nat) : a.grownBy b r := ⟨h.os, h.tape, h.output, h.size, fun i hi _ => h.block i hi (by simp)⟩
theorem grownInto {a w w' : World} {p : Nat} {r : Option Nat} (h : a.grownBy w r) (k : w.grownBy w' (some p)) (hp : a.heap.size ≤ p) : a.grownBy w' r :=
  ⟨k.os.trans h.os, k.tape.trans h.tape, k.output.trans h.output, Nat.le_trans h.size k.size, fun i hi hn => (k.block i (Nat.lt_of_lt_of_le hi h.size) (fun e => by have : i = p := (by injection e); omega)).trans (h.block i hi hn)⟩

theorem Tn.freshR {a w u : World} {bs : List Nat} {r : Option Nat} (h : a.grownBy w r) (k : Tn w u bs) (hb : ∀ x ∈ bs, a.heap.size ≤ x) : a.grownBy u r :=
  ⟨k.os.trans h.os, k.tape.trans h.tape, k.output.trans h.output, Nat.le_trans h.size k.size, fun i hi hn => (k.block i (Nat.lt_of_lt_of_le hi h.size) (fun hx => by have := hb i hx; omega)).trans (h.block i hi hn)⟩
theorem SlD.row {w u : World} {t : TypeId} {f : F} {a : Option Addr} {l rm : Nat} (h : SlD w t a l f) (hg : w.grownBy u (some rm)) {cur : Array Value} (hr : w.heap[rm]? = some (.cells cur 3 (0, 0))) (ht : t ≠ 3) : SlD u t a l f :=
  h.fix fun i cur' hc => hg.block i (lt_of_block hc) (fun e => by have e1 : i = rm := (by injection e); subst e1; rw [hr] at hc; cases hc; exact ht rfl)
theorem InD.snd {w : World} {t : TypeId} {f g : F} {b off : Nat} (h : InD w t (f.app g) b off) : InD w t g b (off + f.len * 3) := by
  induction f generalizing off with
  | nil => simpa [F.app, F.len] using h
  | cons k n d r _ ih =>
    have e : off + (F.cons k n d r).len * 3 = off + 3 + r.len * 3 := by simp only [F.len]; omega
    rw [e]
    exact ih h.2
theorem wOk_stay {L : B} {k n : Int} {d : F} (h : rsT L (k, n, d) = (k, n, rsF L d)) (depth room : Nat) : wOk L k n d depth room = (decide (1 + depF (rsF L d) ≤ depth) && decide (1 + (rsF L d).size ≤ room)) := by
  unfold wOk; rw [h]
theorem kid_no {L : B} {P R' d dd : F} {kk nn : Int} {depth room rj : Nat} (hP : P.app (.cons kk nn dd R') = d) (hr : rj + 1 + (rsF L P).size = room) (hno : wOk L kk nn dd (depth - 1) rj = false) (hd : depth ≠ 0) : (decide (1 + depF (rsF L d) ≤ depth) && decide (1 + (rsF L d).size ≤ room)) = false := by
  rw [Bool.eq_false_iff]
  intro h
  simp only [Bool.and_eq_true, decide_eq_true_eq] at h
  obtain ⟨g1, g2⟩ := h
  rw [← hP, rsF_app, rsF_cons, depF_app] at g1
  rw [← hP, rsF_app, rsF_cons, F.app_size] at g2
  simp only [depF] at g1
  simp only [F.size] at g2
  have h1 : 1 + depF (rsT L (kk, nn, dd)).2.2 ≤ depth - 1 := by omega
  have h2 : 1 + (rsT L (kk, nn, dd)).2.2.size ≤ rj := by omega
  have : wOk L kk nn dd (depth - 1) rj = true := by simp only [wOk, Bool.and_eq_true, decide_eq_true_eq]; exact ⟨h1, h2⟩
  rw [this] at hno; cases hno
theorem kid_yes {L : B} {P dd : F} {kk nn : Int} {depth room rj : Nat} (hr : rj + 1 + (rsF L P).size = room) (hdp : depF (rsF L P) ≤ depth - 1) (hyes : wOk L kk nn dd (depth - 1) rj = true) : depF (rsF L (P.app (.cons kk nn dd .nil))) ≤ depth - 1 ∧ (rj - (1 + (rsT L (kk, nn, dd)).2.2.size)) + 1 + (rsF L (P.app (.cons kk nn dd .nil))).size = room := by
  simp only [wOk, Bool.and_eq_true, decide_eq_true_eq] at hyes
  rw [rsF_app, rsF_cons, rsF_nil, depF_app, F.app_size]
  simp only [depF, F.size, Nat.max_le]
  omega


set_option maxRecDepth 100000 in
set_option maxHeartbeats 4000000 in
theorem walkT (B0 sb wk rm p m : Nat) (oa : Option Addr) (oc : Nat) (L : B) (hL : wfB L) (hlen : L.len ≤ 200000) (M : Nat) : ∀ (d : F) (k n : Int) (a : Option Addr) (l c depth room : Nat) (w : World), depth * (L.len + 2) + rkT L k n < M → Ev B0 w sb wk rm p m oa oc L room → SlD w 25 a l d → fitsB k n l = true → fitF d = true → d.size ≤ 59 → depth ≤ 10 → room ≤ 60 →
    Calls Try.prog 78 #[.agg #[.int .i64 k, .int .i64 n, .slice a l c], .int .i64 depth, .pointer (some ⟨sb, 0, none⟩), .pointer (some ⟨wk, 0, none⟩), .pointer (some ⟨rm, 0, none⟩)] w fun e u => WP L rm w k n d depth room e u := by
  induction M with
  | zero => intro d k n a l c depth room w hM; exact absurd hM (Nat.not_lt_zero _)
  | succ M ih =>
    intro d k n a l c depth room w hM hE hS hf hfd hds hdep hroom
    have IH : Hid _ := ih
    have hl := hS.2.1
    have hfl := hS.1
    obtain ⟨b0, b1, bsz⟩ := alloc2_blocks w (.cells #[.int .i64 k, .int .i64 n, .slice a l c] 25) (.cells #[.int .i64 0, .int .i64 0, .slice none 0 0] 25)
    have g0 := grown_alloc (grown_alloc (World.grownBy.refl w none) (.cells #[.int .i64 k, .int .i64 n, .slice a l c] 25)) (.cells #[.int .i64 0, .int .i64 0, .slice none 0 0] 25)
    have L0 : Hid (w.grownBy _ none ∧ _ = some (Obj.cells #[.int .i64 k, .int .i64 n, .slice a l c] 25) ∧ _ = some (Obj.cells #[.int .i64 0, .int .i64 0, .slice none 0 0] 25) ∧ _ = w.heap.size + 1 + 1 ∧ Ev B0 _ sb wk rm p m oa oc L room ∧ SlD _ 25 a l d) := ⟨g0, b0, b1, bsz, hE.none g0, hS.none g0⟩
    have hrm := lt_of_block hE.rB
    have hsb := lt_of_block hE.sB
    obtain ⟨xs0, -⟩ := one1 hE.sB
    obtain ⟨xr0, fr0⟩ := one1 hE.rB
    have HF : Hid (fitsB k n d.len = true ∧ fitF d = true ∧ d.size ≤ 59 ∧ wfB L ∧ depth * (L.len + 2) + rkT L k n < M + 1 ∧ d.len = l) := ⟨by rw [hfl]; exact hf, hfd, hds, hL, hM, hfl⟩
    clear ih b0 b1 bsz g0 hE hS hfd
    by_cases hbd : k = 7 ∧ L.dom.contains n = true
    · obtain ⟨h7, hbd⟩ := hbd
      have hk7 : (k == 7) = true := by simpa using h7
      have hn : 0 ≤ n ∧ n ≤ 99999 := by
        have := hf
        rw [h7, fits7] at this
        simp only [Bool.and_eq_true, decide_eq_true_eq] at this
        exact this.2
      have hnI : I64x n := by unfold I64x; omega
      obtain ⟨y, hy⟩ : ∃ y, L.find n = some y := by
        have := B.find_dom L n
        rw [hbd] at this
        exact Option.isSome_iff_exists.1 this
      obtain ⟨k2, n2, d2⟩ := y
      have CB := bindsAsk B0 p m oa oc L n hnI _ L0.out.2.2.2.2.1.bs
      rw [hbd] at CB
      have HCB : Hid _ := CB
      have HY : Hid (L.find n = some (k2, n2, d2) ∧ k = 7 ∧ WP L rm w k n d depth room = WP L rm w k2 n2 d2 depth room) := ⟨hy, h7, by
        funext e u
        subst h7
        unfold WP
        rw [wOk_bound hL hy, rsT_bound L hL hy]⟩
      clear CB hy hbd hf hfl hM hds hL h7
      go_enter Try.func78, Try.ntmps78
      go_wp2_with fail
      refine Calls.mono HCB.out ?_
      rintro e w2 ⟨rfl, hg⟩
      obtain ⟨T, hM0, hV0⟩ := (L0.out.2.2.2.2.1.none hg).bs.has
      have hval := hV0 n
      rw [HY.out.1] at hval
      obtain ⟨a2, l2, c2, hT, hS2⟩ := hval
      simp only [] at hT hS2
      have G2 := grown_trans L0.out.1 hg
      have E2 := L0.out.2.2.2.2.1.none hg
      have bq := (hg.block _ (lt_of_block L0.out.2.1) (by simp)).trans L0.out.2.1
      have br := (hg.block _ (lt_of_block L0.out.2.2.1) (by simp)).trans L0.out.2.2.1
      have gd := grown_drew (World.grownBy.refl w2 none)
      have hlen2 := L0.out.2.2.2.1
      have L1 : Hid (w.grownBy w2.drew none ∧ Ev B0 w2.drew sb wk rm p m oa oc L room ∧ w2.drew.heap[w.heap.size + 1]? = some (Obj.cells #[.int .i64 0, .int .i64 0, .slice none 0 0] 25) ∧ SlD w2.drew 25 a2 l2 d2 ∧ T n = some (.agg #[.int .i64 k2, .int .i64 n2, .slice a2 l2 c2]) ∧ w.heap.size + 1 < w2.drew.heap.size) := ⟨grown_trans G2 gd, E2.none gd, (gd.block _ (lt_of_block br) (by simp)).trans br, hS2.none gd, hT, by have h1 := hg.size; have h2 := gd.size; rw [hlen2] at h1; omega⟩
      have S1 : Hid (SA wk sb rm p m w.heap.size L.len k n a l c T w2.drew) := ⟨(one1 (E2.none gd).wB).1, (one1 (E2.none gd).sB).1, (two (E2.none gd).bs.box).1.1, (three ((gd.block _ (lt_of_block bq) (by simp)).trans bq)).1, hM0.kept gd (by simp)⟩
      have NE : Hid (wk ≠ rm ∧ sb ≠ rm ∧ p ≠ rm ∧ w.heap.size ≠ rm ∧ m ≠ rm) := by
        refine ⟨fun e => ?_, fun e => ?_, fun e => ?_, by omega, fun e => ?_⟩
        · subst e; have := E2.wB.symm.trans E2.rB; cases this
        · subst e; have := E2.sB.symm.trans E2.rB; cases this
        · subst e; have := E2.bs.box.symm.trans E2.rB; cases this
        · obtain ⟨es, clock, hm⟩ := hM0.isMap
          subst e; have := hm.symm.trans E2.rB; cases this
      clear hM0 hV0 hT hS2 G2 E2 bq br gd hlen2 hg HCB L0 xs0 xr0 fr0 hsb
      simp only []
      go_wp2_with fail
      refine wp_region_held_drew (S := (fun u => SA wk sb rm p m w.heap.size L.len k n a l c T u)) (by kernel_rfl) S1.out (fun hH => ?_)
      generalize w2.drew = t0 at *
      generalize ep : w.heap.size = q at *
      simp only [List.size_toArray, List.length_cons, List.length_nil, Nat.reduceAdd, Array.replicate, List.replicate]
      refine wpAnyH_take (i := 0) (v := ?_) rfl (by kernel_rfl) (by kernel_rfl) (by kernel_rfl) (fun _ _ _ h => h) (Or.inl ⟨by rfl, ?_⟩) hH ?_
      rotate_left
      · (intro v hS; obtain ⟨s0, s1, s2, ⟨s3, s4, s5⟩, s6⟩ := hS; go_simp; try with_reducible rfl)
      simp only [Act.put, List.setIfInBounds_toArray, List.set_cons_zero, List.set_cons_succ, List.getElem_toArray, List.getElem_cons_succ, List.getElem_cons_zero]
      refine wpAnyH_take (i := 1) (v := ?_) rfl (by kernel_rfl) (by kernel_rfl) (by kernel_rfl) (fun _ _ _ h => h) (Or.inl ⟨by rfl, ?_⟩) hH ?_
      rotate_left
      · (intro v hS; obtain ⟨s0, s1, s2, ⟨s3, s4, s5⟩, s6⟩ := hS; go_simp; try with_reducible rfl)
      simp only [Act.put, List.setIfInBounds_toArray, List.set_cons_zero, List.set_cons_succ, List.getElem_toArray, List.getElem_cons_succ, List.getElem_cons_zero]
      refine wpAnyH_take (i := 2) (v := ?_) rfl (by kernel_rfl) (by kernel_rfl) (by kernel_rfl) (fun _ _ _ h => h) (Or.inl ⟨by rfl, ?_⟩) hH ?_
      rotate_left
      · (intro v hS; obtain ⟨s0, s1, s2, ⟨s3, s4, s5⟩, s6⟩ := hS; go_simp; try with_reducible rfl)
      simp only [Act.put, List.setIfInBounds_toArray, List.set_cons_zero, List.set_cons_succ, List.getElem_toArray, List.getElem_cons_succ, List.getElem_cons_zero]
      refine wpAnyH_take (i := 3) (v := ?_) rfl (by kernel_rfl) (by kernel_rfl) (by kernel_rfl) (fun _ _ _ h => h) (Or.inl ⟨by rfl, ?_⟩) hH ?_
      rotate_left
      · (intro v hS; obtain ⟨s0, s1, s2, ⟨s3, s4, s5⟩, s6⟩ := hS; go_simp; try with_reducible rfl)
      simp only [Act.put, List.setIfInBounds_toArray, List.set_cons_zero, List.set_cons_succ, List.getElem_toArray, List.getElem_cons_succ, List.getElem_cons_zero]
      refine wpAnyH_take (i := 4) (v := ?_) rfl (by kernel_rfl) (by kernel_rfl) (by kernel_rfl) (fun _ _ _ h => h) (Or.inl ⟨by rfl, ?_⟩) hH ?_
      rotate_left
      · (intro v hS; obtain ⟨s0, s1, s2, ⟨s3, s4, s5⟩, s6⟩ := hS; go_simp; try with_reducible rfl)
      simp only [Act.put, List.setIfInBounds_toArray, List.set_cons_zero, List.set_cons_succ, List.getElem_toArray, List.getElem_cons_succ, List.getElem_cons_zero]
      refine wpAnyH_take (i := 5) (v := ?_) rfl (by kernel_rfl) (by kernel_rfl) (by kernel_rfl) (fun _ _ _ h => h) (Or.inl ⟨by rfl, ?_⟩) hH ?_
      rotate_left
      · (intro v hS; obtain ⟨s0, s1, s2, ⟨s3, s4, s5⟩, s6⟩ := hS; go_simp; try with_reducible rfl)
      simp only [Act.put, List.setIfInBounds_toArray, List.set_cons_zero, List.set_cons_succ, List.getElem_toArray, List.getElem_cons_succ, List.getElem_cons_zero]
      refine wpAnyH_take (i := 6) (v := ?_) rfl (by kernel_rfl) (by kernel_rfl) (by kernel_rfl) (fun _ _ _ h => h) (Or.inl ⟨by rfl, ?_⟩) hH ?_
      rotate_left
      · (intro v hS; obtain ⟨s0, s1, s2, ⟨s3, s4, s5⟩, s6⟩ := hS; go_simp; try with_reducible rfl)
      simp only [Act.put, List.setIfInBounds_toArray, List.set_cons_zero, List.set_cons_succ, List.getElem_toArray, List.getElem_cons_succ, List.getElem_cons_zero]
      refine wpAnyH_take (i := 7) (v := .agg #[.int .i64 k2, .int .i64 n2, .slice a2 l2 c2]) rfl (by kernel_rfl) (by kernel_rfl) (by kernel_rfl) (fun _ _ _ h => h) (Or.inl ⟨by rfl, ?_⟩) hH ?_
      · intro v hS
        have hlk := hS.2.2.2.2.look hnI
        rw [L1.out.2.2.2.2.1] at hlk
        simp only [Option.getD_some] at hlk
        go_simp
      simp only [Act.put, List.setIfInBounds_toArray, List.set_cons_zero, List.set_cons_succ, List.getElem_toArray, List.getElem_cons_succ, List.getElem_cons_zero]
      refine wpAnyH_take (i := 8) (v := ?_) rfl (by kernel_rfl) (by kernel_rfl) (by kernel_rfl) (fun _ _ _ h => h) (Or.inl ⟨by rfl, ?_⟩) hH ?_
      rotate_left
      · (intro v hS; go_simp; try with_reducible rfl)
      simp only [Act.put, List.setIfInBounds_toArray, List.set_cons_zero, List.set_cons_succ, List.getElem_toArray, List.getElem_cons_succ, List.getElem_cons_zero]
      refine wpAnyH_ready (rs := [9]) (by kernel_rfl) (by simp) ?_
      refine AllReadyH.cons rfl (fun K hK => ?_) AllReadyH.nil
      go_simp
      have hw2 := wfB_find HF.out.2.2.2.1 HY.out.1
      have hk2 := (okT_iff k2 n2 d2).1 hw2.2
      have hlt := rkT_less HF.out.2.2.2.1 HY.out.1
      refine Calls.mono (IH.out d2 k2 n2 a2 l2 c2 depth room t0 (by have := HF.out.2.2.2.2.1; rw [HY.out.2.1] at this; omega) L1.out.2.1 L1.out.2.2.2.1 (by rw [← L1.out.2.2.2.1.1]; exact hk2.1) hk2.2.1 (by omega) hdep hroom) ?_
      rintro e u ⟨hg, he⟩
      have S2 : Hid (SA wk sb rm p m q L.len k n a l c T u) := S1.out.row hg NE.out
      have hqu : q + 1 < u.heap.size := by have h1 := hg.size; have h2 := L1.out.2.2.2.2.2; omega
      have NE2 : Hid (wk ≠ q + 1 ∧ sb ≠ q + 1 ∧ p ≠ q + 1 ∧ q ≠ q + 1 ∧ m ≠ q + 1) := by
        have hq1 := L1.out.2.2.1
        refine ⟨fun e => ?_, fun e => ?_, fun e => ?_, by omega, fun e => ?_⟩
        · rw [← e] at hq1; have := L1.out.2.1.wB.symm.trans hq1; cases this
        · rw [← e] at hq1; have := L1.out.2.1.sB.symm.trans hq1; cases this
        · rw [← e] at hq1; have := L1.out.2.1.bs.box.symm.trans hq1; cases this
        · obtain ⟨es, clock, hm⟩ := S1.out.2.2.2.2.isMap
          rw [← e] at hq1; have := hm.symm.trans hq1; cases this
      have hq1 : u.heap[q + 1]? = some (Obj.cells #[.int .i64 0, .int .i64 0, .slice none 0 0] 25) := (hg.block _ (lt_of_block L1.out.2.2.1) (fun e => by have : q + 1 = rm := (by injection e); omega)).trans L1.out.2.2.1
      have fin : ∀ (rk rn : Int) (av : Option Addr) (lv cv : Nat), (((u.setCell ⟨q + 1, 0, none⟩ (.int .i64 rk)).setCell ⟨q + 1, 1, none⟩ (.int .i64 rn)).setCell ⟨q + 1, 2, none⟩ (.slice av lv cv)).heap[q + 1]? = some (Obj.cells #[.int .i64 rk, .int .i64 rn, .slice av lv cv] 25) ∧ u.grownBy (((u.setCell ⟨q + 1, 0, none⟩ (.int .i64 rk)).setCell ⟨q + 1, 1, none⟩ (.int .i64 rn)).setCell ⟨q + 1, 2, none⟩ (.slice av lv cv)) (some (q + 1)) := fun rk rn av lv cv => fill3 _ _ _ hq1
      have FIN : Hid _ := fin
      have GW : Hid (w.grownBy u (some rm) ∧ w.heap.size ≤ t0.heap.size ∧ q + 1 < t0.heap.size) := ⟨grown_trans (grownWeak L1.out.1 _) hg, L1.out.1.size, L1.out.2.2.2.2.2⟩
      obtain ⟨⟨y0, y1, y2⟩, f0, f1, f2⟩ := three hq1
      clear hw2 hk2 hlt hg fin hq1
      clear L1 S1
      cases hwo : wOk L k2 n2 d2 depth room with
      | true =>
        rw [hwo, if_pos rfl] at he
        obtain ⟨a', c', bs, he, hr, hN, hna⟩ := he
        subst he
        refine hK.out _ _ S2.out (fun hH2 => ?_)
        have WQ : Hid (WP L rm w k n d depth room = WP L rm w k2 n2 d2 depth room ∧ wOk L k2 n2 d2 depth room = true) := ⟨HY.out.2.2, hwo⟩
        have RN : Hid (u.heap[rm]? = some (.cells #[.int .i64 ((room - (1 + (rsT L (k2, n2, d2)).2.2.size) : Nat) : Int)] 3 (0, 0)) ∧ New t0 u 25 a' (rsT L (k2, n2, d2)).2.2.len c' (rsT L (k2, n2, d2)).2.2 bs ∧ (c' = 0 → a' = none)) := ⟨hr, hN, hna⟩
        clear hwo hr hN hna HY HF IH
        generalize eR : rsT L (k2, n2, d2) = R at *
        have ER : Hid (rsT L (k2, n2, d2) = R) := eR
        clear eR
        clear hK K hH
        have hH := hH2
        clear hH2
        simp only [Act.put, List.setIfInBounds_toArray, List.set_cons_zero, List.set_cons_succ, List.getElem_toArray, List.getElem_cons_succ, List.getElem_cons_zero]
        refine wpAnyH_take (i := 10) (v := ?_) rfl (by kernel_rfl) (by kernel_rfl) (by kernel_rfl) (fun _ _ _ h => h) (Or.inl ⟨by rfl, ?_⟩) hH ?_
        rotate_left
        · (intro v hS; go_simp; try with_reducible rfl)
        simp only [Act.put, List.setIfInBounds_toArray, List.set_cons_zero, List.set_cons_succ, List.getElem_toArray, List.getElem_cons_succ, List.getElem_cons_zero]
        refine wpAnyH_take (i := 11) (v := ?_) rfl (by kernel_rfl) (by kernel_rfl) (by kernel_rfl) (fun _ _ _ h => h) (Or.inl ⟨by rfl, ?_⟩) hH ?_
        rotate_left
        · (intro v hS; go_simp; try with_reducible rfl)
        simp only [Act.put, List.setIfInBounds_toArray, List.set_cons_zero, List.set_cons_succ, List.getElem_toArray, List.getElem_cons_succ, List.getElem_cons_zero]
        refine wpAnyH_ready (rs := [12]) (by kernel_rfl) (by simp) ?_
        refine AllReadyH.cons rfl (fun K hK => ?_) AllReadyH.nil
        go_simp
        refine hK.out _ _ (S2.out.row (FIN.out _ _ _ _ _).2 NE2.out) (fun hH2 => ?_)
        clear y0 y1 y2 f0 f1 f2
        clear hK K hH
        have hH := hH2
        clear hH2
        simp only [Act.put, List.setIfInBounds_toArray, List.set_cons_zero, List.set_cons_succ, List.getElem_toArray, List.getElem_cons_succ, List.getElem_cons_zero]
        refine wpAnyH_take (i := 13) (v := ?_) rfl (by kernel_rfl) (by kernel_rfl) (by kernel_rfl) (fun _ _ _ h => h) (Or.inl ⟨by rfl, ?_⟩) hH ?_
        rotate_left
        · (intro v hS; go_simp; try with_reducible rfl)
        simp only [Act.put, List.setIfInBounds_toArray, List.set_cons_zero, List.set_cons_succ, List.getElem_toArray, List.getElem_cons_succ, List.getElem_cons_zero]
        refine wpAnyH_done (by kernel_rfl) ?_ _
        clear hH
        go_wp2
        (try simp only [Exit.inBlock, Exit.then])
        refine bodyPost_ret (results_cell2 (P := Try.prog) Try.results78 _ _ (q + 1) _ _ _ _ rfl (FIN.out _ _ _ _ _).1 Try.underlying25 rfl (by kernel_rfl)) rfl ?_
        rw [WQ.out.1]
        refine ⟨grownInto GW.out.1 (FIN.out _ _ _ _ _).2 (by omega), ?_⟩
        rw [if_pos WQ.out.2, ER.out]
        obtain ⟨hr, hN, hna⟩ := RN.out
        have hk := (FIN.out R.1 R.2.1 a' R.2.2.len c').2
        refine ⟨a', c', bs, rfl, (hk.block rm (lt_of_block hr) (fun e => by have : rm = q + 1 := (by injection e); omega)).trans hr, ⟨hN.1.kept hk (fun x hx e => by have := hN.2.2 x hx; have h1 : x = q + 1 := (by injection e); have := GW.out; omega), hN.2.1, fun x hx => by have := hN.2.2 x hx; have := GW.out; omega⟩, hna⟩
      | false =>
        rw [hwo] at he
        simp only [Bool.false_eq_true, if_false] at he
        subst he
        refine hK.out _ _ S2.out (fun hH2 => ?_)
        have WQ : Hid (WP L rm w k n d depth room = WP L rm w k2 n2 d2 depth room ∧ wOk L k2 n2 d2 depth room = false) := ⟨HY.out.2.2, hwo⟩
        clear hwo HY HF IH
        clear hK K hH
        have hH := hH2
        clear hH2
        simp only [Act.put, List.setIfInBounds_toArray, List.set_cons_zero, List.set_cons_succ, List.getElem_toArray, List.getElem_cons_succ, List.getElem_cons_zero]
        refine wpAnyH_take (i := 10) (v := ?_) rfl (by kernel_rfl) (by kernel_rfl) (by kernel_rfl) (fun _ _ _ h => h) (Or.inl ⟨by rfl, ?_⟩) hH ?_
        rotate_left
        · (intro v hS; go_simp; try with_reducible rfl)
        simp only [Act.put, List.setIfInBounds_toArray, List.set_cons_zero, List.set_cons_succ, List.getElem_toArray, List.getElem_cons_succ, List.getElem_cons_zero]
        refine wpAnyH_take (i := 11) (v := ?_) rfl (by kernel_rfl) (by kernel_rfl) (by kernel_rfl) (fun _ _ _ h => h) (Or.inl ⟨by rfl, ?_⟩) hH ?_
        rotate_left
        · (intro v hS; go_simp; try with_reducible rfl)
        simp only [Act.put, List.setIfInBounds_toArray, List.set_cons_zero, List.set_cons_succ, List.getElem_toArray, List.getElem_cons_succ, List.getElem_cons_zero]
        refine wpAnyH_ready (rs := [12]) (by kernel_rfl) (by simp) ?_
        refine AllReadyH.cons rfl (fun K hK => ?_) AllReadyH.nil
        go_simp
        refine hK.out _ _ (S2.out.row (FIN.out _ _ _ _ _).2 NE2.out) (fun hH2 => ?_)
        clear y0 y1 y2 f0 f1 f2
        clear hK K hH
        have hH := hH2
        clear hH2
        simp only [Act.put, List.setIfInBounds_toArray, List.set_cons_zero, List.set_cons_succ, List.getElem_toArray, List.getElem_cons_succ, List.getElem_cons_zero]
        refine wpAnyH_take (i := 13) (v := ?_) rfl (by kernel_rfl) (by kernel_rfl) (by kernel_rfl) (fun _ _ _ h => h) (Or.inl ⟨by rfl, ?_⟩) hH ?_
        rotate_left
        · (intro v hS; go_simp; try with_reducible rfl)
        simp only [Act.put, List.setIfInBounds_toArray, List.set_cons_zero, List.set_cons_succ, List.getElem_toArray, List.getElem_cons_succ, List.getElem_cons_zero]
        refine wpAnyH_done (by kernel_rfl) ?_ _
        clear hH
        go_wp2
        (try simp only [Exit.inBlock, Exit.then])
        refine bodyPost_ret (results_cell2 (P := Try.prog) Try.results78 _ _ (q + 1) _ _ _ _ rfl (FIN.out _ _ _ _ _).1 Try.underlying25 rfl (by kernel_rfl)) rfl ?_
        rw [WQ.out.1]
        refine ⟨grownInto GW.out.1 (FIN.out _ _ _ _ _).2 (by omega), ?_⟩
        rw [WQ.out.2]
        simp
    · have hfr : k = 7 → L.find n = none := by
        intro h7
        have := B.find_dom L n
        cases hc : L.dom.contains n with
        | true => exact absurd ⟨h7, hc⟩ hbd
        | false => rw [hc] at this; exact Option.not_isSome_iff_eq_none.1 (by simp [this])
      have HT : Hid (rsT L (k, n, d) = (k, n, rsF L d) ∧ (k = 7 → L.dom.contains n = false ∧ I64x n)) := ⟨rsT_stay HF.out.1 hfr, fun h7 => ⟨by cases hc : L.dom.contains n with
        | true => exact absurd ⟨h7, hc⟩ hbd
        | false => rfl, by
          have := hf
          rw [h7, fits7] at this
          simp only [Bool.and_eq_true, decide_eq_true_eq] at this
          unfold I64x; omega⟩⟩
      have hdl : d.len ≤ 59 := Nat.le_trans d.len_le hds
      clear hbd hfr hf hfl hM hds hL
      go_enter Try.func78, Try.ntmps78
      go_upto_region 1 with fail
      generalize eW : (w.alloc (.cells #[.int .i64 k, .int .i64 n, .slice a l c] 25)).alloc (.cells #[.int .i64 0, .int .i64 0, .slice none 0 0] 25) = W0 at *
      generalize ep : w.heap.size = q at *
      have FU : Hid (∀ u, W0.grownBy u none → w.grownBy u none ∧ u.heap[q]? = some (Obj.cells #[.int .i64 k, .int .i64 n, .slice a l c] 25) ∧ u.heap[q + 1]? = some (Obj.cells #[.int .i64 0, .int .i64 0, .slice none 0 0] 25) ∧ q + 1 < u.heap.size ∧ Ev B0 u sb wk rm p m oa oc L room ∧ SlD u 25 a l d) := fun u hu => ⟨grown_trans L0.out.1 hu, (hu.block _ (lt_of_block L0.out.2.1) (by simp)).trans L0.out.2.1, (hu.block _ (lt_of_block L0.out.2.2.1) (by simp)).trans L0.out.2.2.1, by have h1 := hu.size; have h2 := L0.out.2.2.2.1; omega, L0.out.2.2.2.2.1.none hu, L0.out.2.2.2.2.2.none hu⟩
      clear L0 xs0 xr0 fr0 hsb eW
      go_cut [22] (fun s wx => s = .bool false ∧ Hid (W0.grownBy wx none))
      case first =>
        have G0 : Hid (W0.grownBy W0 none) := World.grownBy.refl _ _
        obtain ⟨⟨y0, y1, y2⟩, -⟩ := three (FU.out _ G0.out).2.1
        by_cases h7 : k = 7
        · have hk7 : (k == 7) = true := by simpa using h7
          have CB := bindsAsk B0 p m oa oc L n (HT.out.2 h7).2 _ (FU.out _ G0.out).2.2.2.2.1.bs
          rw [(HT.out.2 h7).1] at CB
          have HCB : Hid _ := CB
          obtain ⟨xs0, -⟩ := one1 (FU.out _ G0.out).2.2.2.2.1.sB
          clear CB h7
          go_wp2_with fail
          refine Calls.mono HCB.out ?_
          rintro e w2 ⟨rfl, hg⟩
          have G2 : Hid (W0.grownBy w2 none) := hg
          clear hg HCB xs0 y0 y1 y2
          simp only []
          go_wp2
          go_meet
          case rel => exact ⟨rfl, G2⟩
        · have hk7 : (k == 7) = false := by simpa using h7
          clear h7
          go_wp2
          go_meet
          case rel => exact ⟨rfl, G0⟩
      case rest =>
      obtain ⟨rfl, G0⟩ := hcut
      have FV : Hid _ := FU.out _ G0.out
      clear FU G0
      obtain ⟨⟨z0, z1, z2⟩, e0, e1, e2⟩ := three FV.out.2.2.1
      obtain ⟨xr0, fr0⟩ := one1 FV.out.2.2.2.2.1.rB
      have hqc := FV.out.2.2.2.1
      have hrc : rm < wc.heap.size := by omega
      have hq1r : q + 1 ≠ rm := by omega
      have hqc0 : q < wc.heap.size := by omega
      by_cases hd0 : depth = 0
      · have hd0' : ((depth : Int) == 0) = true := by simpa using hd0
        have HW : Hid (wOk L k n d depth room = false) := by
          show _ = _
          rw [wOk_stay HT.out.1, hd0]; simp
        have fin := fill3 (.int .i64 0) (.int .i64 0) (.slice none 0 0) FV.out.2.2.1
        have FIN : Hid _ := fin
        clear fin
        go_wp2
        (try simp only [Exit.inBlock, Exit.then])
        refine bodyPost_ret (results_cell2 (P := Try.prog) Try.results78 _ _ (q + 1) _ _ _ _ rfl FIN.out.1 Try.underlying25 rfl (by kernel_rfl)) rfl ?_
        refine ⟨grownInto (grownWeak FV.out.1 _) FIN.out.2 (by omega), ?_⟩
        rw [HW.out]
        simp
      have hd0' : ((depth : Int) == 0) = false := by simpa using hd0
      by_cases hr0 : room = 0
      · have hr0' : ((room : Int) == 0) = true := by simpa using hr0
        have HW : Hid (wOk L k n d depth room = false) := by
          show _ = _
          rw [wOk_stay HT.out.1, hr0]; simp
        have fin := fill3 (.int .i64 0) (.int .i64 0) (.slice none 0 0) FV.out.2.2.1
        have FIN : Hid _ := fin
        clear fin
        go_wp2
        (try simp only [Exit.inBlock, Exit.then])
        refine bodyPost_ret (results_cell2 (P := Try.prog) Try.results78 _ _ (q + 1) _ _ _ _ rfl FIN.out.1 Try.underlying25 rfl (by kernel_rfl)) rfl ?_
        refine ⟨grownInto (grownWeak FV.out.1 _) FIN.out.2 (by omega), ?_⟩
        rw [HW.out]
        simp
      have hr0' : ((room : Int) == 0) = false := by simpa using hr0
      obtain ⟨⟨y0, y1, y2⟩, -⟩ := three FV.out.2.1
      have hqr : q ≠ rm := by omega
      clear z0 z1 z2 e0 e1 e2
      go_wp2
      have ers : (room : Int) - 1 = ((room - 1 : Nat) : Int) := by omega
      rw [ers]
      have gs := grown_setCell wc rm 0 (.int .i64 ((room - 1 : Nat) : Int))
      have bs0 := heap_setCell_same wc rm 0 _ _ (.int .i64 ((room - 1 : Nat) : Int)) FV.out.2.2.2.2.1.rB
      have ga := World.grownBy_alloc (wc.setCell ⟨rm, 0, none⟩ (.int .i64 ((room - 1 : Nat) : Int))) (.cells #[.int .i64 k, .int .i64 n, .slice none 0 0] 25) none
      have Es := FV.out.2.2.2.2.1.turn gs bs0
      have hsz : (wc.setCell ⟨rm, 0, none⟩ (.int .i64 ((room - 1 : Nat) : Int))).heap.size = wc.heap.size := by simp
      have b9 := heap_alloc_new (wc.setCell ⟨rm, 0, none⟩ (.int .i64 ((room - 1 : Nat) : Int))) (.cells #[.int .i64 k, .int .i64 n, .slice none 0 0] 25)
      rw [hsz] at b9
      have LS : Hid (w.grownBy ((wc.setCell ⟨rm, 0, none⟩ (.int .i64 ((room - 1 : Nat) : Int))).alloc (.cells #[.int .i64 k, .int .i64 n, .slice none 0 0] 25)) (some rm) ∧ Ev B0 ((wc.setCell ⟨rm, 0, none⟩ (.int .i64 ((room - 1 : Nat) : Int))).alloc (.cells #[.int .i64 k, .int .i64 n, .slice none 0 0] 25)) sb wk rm p m oa oc L (room - 1) ∧ ((wc.setCell ⟨rm, 0, none⟩ (.int .i64 ((room - 1 : Nat) : Int))).alloc (.cells #[.int .i64 k, .int .i64 n, .slice none 0 0] 25)).heap[q + 1]? = some (Obj.cells #[.int .i64 0, .int .i64 0, .slice none 0 0] 25) ∧ ((wc.setCell ⟨rm, 0, none⟩ (.int .i64 ((room - 1 : Nat) : Int))).alloc (.cells #[.int .i64 k, .int .i64 n, .slice none 0 0] 25)).heap[wc.heap.size]? = some (Obj.cells #[.int .i64 k, .int .i64 n, .slice none 0 0] 25) ∧ SlD wc 25 a l d ∧ wc.grownBy ((wc.setCell ⟨rm, 0, none⟩ (.int .i64 ((room - 1 : Nat) : Int))).alloc (.cells #[.int .i64 k, .int .i64 n, .slice none 0 0] 25)) (some rm) ∧ wc.heap[rm]? = some (.cells #[.int .i64 room] 3 (0, 0)) ∧ w.grownBy wc none) :=
        ⟨grown_trans (grown_trans (grownWeak FV.out.1 _) gs) (grownWeak ga _), Es.none ga, (ga.block _ (by rw [hsz]; omega) (by simp)).trans ((gs.block _ hqc (by simp; omega)).trans FV.out.2.2.1), b9, FV.out.2.2.2.2.2, grown_trans gs (grownWeak ga _), FV.out.2.2.2.2.1.rB, FV.out.1⟩
      have EC : Hid (Ev B0 wc sb wk rm p m oa oc L room) := FV.out.2.2.2.2.1
      clear gs bs0 ga Es hsz b9 FV xr0 fr0 y0 y1 y2 ers
      generalize (wc.setCell ⟨rm, 0, none⟩ (.int .i64 ((room - 1 : Nat) : Int))).alloc (.cells #[.int .i64 k, .int .i64 n, .slice none 0 0] 25) = W1 at *
      generalize eg : wc.heap.size = g9 at *
      have hl9 := HF.out.2.2.2.2.2
      go_loopw [52] (fun i wr => ∃ (j : Nat) (P R : F) (av : Option Addr) (cv : Nat) (bs : List Nat) (rj : Nat), j ≤ l ∧ i = .int .i64 j ∧ P.len = j ∧ R.len + j = l ∧ Hid (P.app R = d ∧ rj + 1 + (rsF L P).size = room ∧ depF (rsF L P) ≤ depth - 1) ∧ Hid (wc.grownBy wr (some rm) ∧ wr.heap[rm]? = some (.cells #[.int .i64 rj] 3 (0, 0)) ∧ wr.heap[q + 1]? = some (Obj.cells #[.int .i64 0, .int .i64 0, .slice none 0 0] 25) ∧ wr.heap[g9]? = some (Obj.cells #[.int .i64 k, .int .i64 n, .slice av j cv] 25) ∧ SlO wr 25 av j cv (rsF L P) bs ∧ bs.Nodup ∧ (∀ x ∈ bs, g9 < x) ∧ (cv = 0 → av = none))) (fun i _ => l - (intOf i).toNat)
      case atStart => exact ⟨0, .nil, d, none, 0, [], room - 1, Nat.zero_le _, rfl, rfl, by omega, ⟨rfl, by rw [rsF_nil]; simp only [F.size]; omega, by rw [rsF_nil]; simp [depF]⟩, LS.out.2.2.2.2.2.1, LS.out.2.1.rB, LS.out.2.2.1, LS.out.2.2.2.1, by rw [rsF_nil]; exact ⟨rfl, by omega, by omega, .inl ⟨rfl, rfl⟩⟩, List.nodup_nil, fun x hx => by simp at hx, fun _ => rfl⟩
      case round =>
        obtain ⟨j, P, R, av, cv, bs, rj, hj, rfl, hPl, hRl, HP, HR⟩ := hrel
        have ER : Hid (Ev B0 wr sb wk rm p m oa oc L rj) := EC.out.turn HR.out.1 HR.out.2.1
        by_cases hlt : j < l
        · obtain ⟨q2, hq2⟩ : ∃ q2, R.len = q2 + 1 := ⟨R.len - 1, by omega⟩
          obtain ⟨kk, nn, dd, R', rfl, hR'⟩ := F.cons_of_len hq2
          have hsl := LS.out.2.2.2.2.1.row HR.out.1 LS.out.2.2.2.2.2.2.1 (by decide)
          rw [← HP.out.1] at hsl
          obtain ⟨b, o, rfl, hin⟩ : ∃ b o, a = some ⟨b, o, none⟩ ∧ InD wr 25 (P.app (.cons kk nn dd R')) b o := by
            rcases hsl.2.2 with h0 | ⟨b, o, e, _, h0⟩
            · omega
            · exact ⟨b, o, e, h0⟩
          obtain ⟨a1, l1, c1, x0, x1, x2, hd1, -⟩ := hin.snd.out
          rw [hPl] at x0 x1 x2
          have hfk : fitsB kk nn dd.len = true ∧ fitF dd = true ∧ dd.size ≤ 59 := by
            have h1 := HF.out.2.1
            have h2 := HF.out.2.2.1
            have h3 := HP.out.1
            have : ∀ (P : F), fitF (P.app (.cons kk nn dd R')) = true → fitsB kk nn dd.len = true ∧ fitF dd = true := by
              intro P
              induction P with
              | nil => intro h; simp only [F.app, fitF, Bool.and_eq_true] at h; exact ⟨h.1, h.2.1⟩
              | cons k n d r _ ih => intro h; simp only [F.app, fitF, Bool.and_eq_true] at h; exact ih h.2.2
            have h4 := this P (by rw [h3]; exact h1)
            have h5 := F.app_size P (.cons kk nn dd R')
            rw [h3] at h5
            simp only [F.size] at h5
            exact ⟨h4.1, h4.2, by omega⟩
          have ga := World.grownBy_alloc wr (.cells #[.int .i64 kk, .int .i64 nn, .slice a1 l1 c1] 25) none
          have hw9 := lt_of_block HR.out.2.2.2.1
          have hm1 : (depth - 1) * (L.len + 2) + rkT L kk nn < M := by
            have h1 := HF.out.2.2.2.2.1
            have h2 := rkT_le L kk nn
            obtain ⟨D, hD⟩ : ∃ D, depth = D + 1 := ⟨depth - 1, by omega⟩
            rw [hD, Nat.add_mul, Nat.one_mul] at h1
            rw [hD, Nat.add_sub_cancel]
            omega
          have hrj : rj ≤ 60 := by have := HP.out.2.1; omega
          have CC : Hid _ := IH.out dd kk nn a1 l1 c1 (depth - 1) rj _ hm1 (ER.out.none ga) (hd1.none ga) (by rw [← hd1.1]; exact hfk.1) hfk.2.1 hfk.2.2 (by omega) hrj
          have edp : ((depth - 1 : Nat) : Int) = (depth : Int) - 1 := by omega
          rw [edp] at CC
          obtain ⟨xw0, -⟩ := one1 ER.out.wB
          have hwkr := lt_of_block ER.out.wB
          have LA : Hid (wr.grownBy (wr.alloc (.cells #[.int .i64 kk, .int .i64 nn, .slice a1 l1 c1] 25)) none) := ga
          clear hsl hin hd1 hfk ga hm1 edp IH
          go_wp2_with fail
          refine Calls.mono CC.out ?_
          rintro e u ⟨hg, he⟩
          have hwu : wr.grownBy u (some rm) := grown_trans (grownWeak LA.out _) hg
          obtain ⟨r1, r2, r3, r4, r5, r6, r7, r8⟩ := HR.out
          have e3 : u.heap[q + 1]? = some (Obj.cells #[.int .i64 0, .int .i64 0, .slice none 0 0] 25) := (hwu.block _ (lt_of_block r3) (fun e => by have : q + 1 = rm := (by injection e); omega)).trans r3
          have e4 : u.heap[g9]? = some (Obj.cells #[.int .i64 k, .int .i64 n, .slice av j cv] 25) := (hwu.block _ (lt_of_block r4) (fun e => by have : g9 = rm := (by injection e); omega)).trans r4
          have hq1u := lt_of_block e3
          have hg9u := lt_of_block e4
          have gwc : wc.grownBy u (some rm) := grown_trans r1 hwu
          have hsz1 : (wr.alloc (.cells #[.int .i64 kk, .int .i64 nn, .slice a1 l1 c1] 25)).heap.size = wr.heap.size + 1 := by simp
          clear CC xw0 hwkr x0 x1 x2
          cases hwo : wOk L kk nn dd (depth - 1) rj with
          | false =>
            rw [hwo] at he
            simp only [Bool.false_eq_true, if_false] at he
            subst he
            have HW : Hid (wOk L k n d depth room = false) := by
              show _ = _
              rw [wOk_stay HT.out.1]; exact kid_no HP.out.1 HP.out.2.1 hwo hd0
            have fin := fill3 (.int .i64 0) (.int .i64 0) (.slice none 0 0) e3
            have ga := World.grownBy_alloc (((u.setCell ⟨q + 1, 0, none⟩ (.int .i64 0)).setCell ⟨q + 1, 1, none⟩ (.int .i64 0)).setCell ⟨q + 1, 2, none⟩ (.slice none 0 0)) (.cells #[.int .i64 0, .int .i64 0, .slice none 0 0] 25) none
            have FIN : Hid _ := And.intro ((ga.block _ (lt_of_block fin.1) (by simp)).trans fin.1) (grown_trans (grownInto (grown_trans (grownWeak LS.out.2.2.2.2.2.2.2 (some rm)) gwc) fin.2 (by omega)) (grownWeak ga _))
            obtain ⟨⟨z0, z1, z2⟩, f0, f1, f2⟩ := three e3
            clear hwo ga e3 fin HR hwu r1 r2 r3 r4 r5 r6 r7 r8 e4 gwc hg LA
            simp only []
            go_wp2
            (try simp only [Exit.inBlock, Exit.then])
            refine bodyPost_ret (results_cell2 (P := Try.prog) Try.results78 _ _ (q + 1) _ _ _ _ rfl FIN.out.1 Try.underlying25 rfl (by kernel_rfl)) rfl ?_
            refine ⟨FIN.out.2, ?_⟩
            rw [HW.out]
            simp
          | true =>
            rw [hwo, if_pos rfl] at he
            obtain ⟨a', c', bs', he, hr', hN, hna⟩ := he
            have HK : Hid _ := kid_yes HP.out.2.1 HP.out.2.2 hwo
            have HPP : Hid ((P.app (.cons kk nn dd .nil)).app R' = d) := by show _ = _; rw [F.app_assoc]; exact HP.out.1
            have hrc2 : rsF L (P.app (.cons kk nn dd .nil)) = (rsF L P).app (.cons (rsT L (kk, nn, dd)).1 (rsT L (kk, nn, dd)).2.1 (rsT L (kk, nn, dd)).2.2 .nil) := by rw [rsF_app, rsF_cons, rsF_nil]
            have HRC : Hid (rsF L (P.app (.cons kk nn dd .nil)) = (rsF L P).app (.cons (rsT L (kk, nn, dd)).1 (rsT L (kk, nn, dd)).2.1 (rsT L (kk, nn, dd)).2.2 .nil)) := hrc2
            clear hwo hrc2
            generalize rsT L (kk, nn, dd) = RR at *
            obtain ⟨rk, rn, rd⟩ := RR
            simp only [] at he hr' hN HK HRC
            subst he
            have ga := World.grownBy_alloc u (.cells #[.int .i64 rk, .int .i64 rn, .slice a' rd.len c'] 25) none
            have gb := World.grownBy_alloc (u.alloc (.cells #[.int .i64 rk, .int .i64 rn, .slice a' rd.len c'] 25)) (.cells #[.int .i64 rk, .int .i64 rn, .slice a' rd.len c'] 25) none
            have gab := grown_trans ga gb
            obtain ⟨b1, b2, bsz⟩ := alloc2_blocks u (.cells #[.int .i64 rk, .int .i64 rn, .slice a' rd.len c'] 25) (.cells #[.int .i64 rk, .int .i64 rn, .slice a' rd.len c'] 25)
            have hsO : SlO u 25 av j cv (rsF L P) bs := r5.kept hwu (fun x hx e => by have := r7 x hx; have h1 : x = rm := (by injection e); omega)
            have Eu := ER.out.turn hwu hr'
            have LB : Hid (wc.grownBy ((u.alloc (.cells #[.int .i64 rk, .int .i64 rn, .slice a' rd.len c'] 25)).alloc (.cells #[.int .i64 rk, .int .i64 rn, .slice a' rd.len c'] 25)) (some rm) ∧ Ev B0 ((u.alloc (.cells #[.int .i64 rk, .int .i64 rn, .slice a' rd.len c'] 25)).alloc (.cells #[.int .i64 rk, .int .i64 rn, .slice a' rd.len c'] 25)) sb wk rm p m oa oc L (rj - (1 + rd.size)) ∧ ((u.alloc (.cells #[.int .i64 rk, .int .i64 rn, .slice a' rd.len c'] 25)).alloc (.cells #[.int .i64 rk, .int .i64 rn, .slice a' rd.len c'] 25)).heap[q + 1]? = some (Obj.cells #[.int .i64 0, .int .i64 0, .slice none 0 0] 25) ∧ ((u.alloc (.cells #[.int .i64 rk, .int .i64 rn, .slice a' rd.len c'] 25)).alloc (.cells #[.int .i64 rk, .int .i64 rn, .slice a' rd.len c'] 25)).heap[g9]? = some (Obj.cells #[.int .i64 k, .int .i64 n, .slice av j cv] 25) ∧ SlO ((u.alloc (.cells #[.int .i64 rk, .int .i64 rn, .slice a' rd.len c'] 25)).alloc (.cells #[.int .i64 rk, .int .i64 rn, .slice a' rd.len c'] 25)) 25 av j cv (rsF L P) bs ∧ bs.Nodup ∧ (∀ x ∈ bs, g9 < x ∧ x < wr.heap.size) ∧ (cv = 0 → av = none) ∧ SlO ((u.alloc (.cells #[.int .i64 rk, .int .i64 rn, .slice a' rd.len c'] 25)).alloc (.cells #[.int .i64 rk, .int .i64 rn, .slice a' rd.len c'] 25)) 25 a' rd.len c' rd bs' ∧ bs'.Nodup ∧ (∀ x ∈ bs', wr.heap.size + 1 ≤ x) ∧ (∀ i v, [Value.int .i64 rk, Value.int .i64 rn, Value.slice a' rd.len c'][i]? = some v → ((u.alloc (.cells #[.int .i64 rk, .int .i64 rn, .slice a' rd.len c'] 25)).alloc (.cells #[.int .i64 rk, .int .i64 rn, .slice a' rd.len c'] 25)).cell? ((⟨u.heap.size + 1, 0, none⟩ : Addr).add i) = some v)) :=
              ⟨grown_trans gwc (grownWeak gab _), Eu.none gab, (gab.block _ hq1u (by simp)).trans e3, (gab.block _ hg9u (by simp)).trans e4, hsO.old gab, r6, fun x hx => ⟨r7 x hx, r5.lt x hx⟩, r8, hN.1.old gab, hN.2.1, fun x hx => by have := hN.2.2 x hx; rw [hsz1] at this; exact this, news3 (three b2).1.1 (three b2).1.2.1 (three b2).1.2.2⟩
            obtain ⟨i0, hi, hz0, hz1, hz2⟩ := info_parts infoT
            obtain ⟨⟨z0, z1, z2⟩, f0, f1, f2⟩ := three e4
            clear ga gb gab b1 b2 bsz hsO Eu hr' hN hna HR hwu r1 r2 r3 r4 r5 r6 r7 r8 e3 gwc hg LA HP hsz1 e4
            simp only []
            go_wp2_with (at_builtin; go_must (refine wpList_pushT rfl _ _ 23 rfl 25 i0 _ Try.underlying23 hi hz0 hz1 hz2 rfl av j cv (rsF L P) bs rfl LB.out.2.2.2.2.1 LB.out.2.2.2.2.2.1 LB.out.2.2.2.2.2.2.2.1 (by omega) ⟨u.heap.size + 1, 0, none⟩ rfl rk rn a' rd.len c' LB.out.2.2.2.2.2.2.2.2.2.2.2 rd bs' LB.out.2.2.2.2.2.2.2.2.1 LB.out.2.2.2.2.2.2.2.2.2.1 (fun x hx hx' => by have h1 := LB.out.2.2.2.2.2.2.1 x hx; have h2 := LB.out.2.2.2.2.2.2.2.2.2.2.1 x hx'; omega) ?_); intro a3 c3 bs3 u3 h1 h2 h3 h4 h5; have hb9 := (h4.block g9 (lt_of_block LB.out.2.2.2.1) (fun hx => by have h6 := LB.out.2.2.2.2.2.2.1 g9 hx; omega)).trans LB.out.2.2.2.1; obtain ⟨⟨v0, v1, v2⟩, t0, t1, t2⟩ := three hb9)
            have g6 := grown_setCell u3 g9 2 (.slice a3 (j + 1) c3)
            have LD : Hid (wc.grownBy (u3.setCell ⟨g9, 2, none⟩ (.slice a3 (j + 1) c3)) (some rm) ∧ (u3.setCell ⟨g9, 2, none⟩ (.slice a3 (j + 1) c3)).heap[rm]? = some (.cells #[.int .i64 ((rj - (1 + rd.size) : Nat) : Int)] 3 (0, 0)) ∧ (u3.setCell ⟨g9, 2, none⟩ (.slice a3 (j + 1) c3)).heap[q + 1]? = some (Obj.cells #[.int .i64 0, .int .i64 0, .slice none 0 0] 25) ∧ (u3.setCell ⟨g9, 2, none⟩ (.slice a3 (j + 1) c3)).heap[g9]? = some (Obj.cells #[.int .i64 k, .int .i64 n, .slice a3 (j + 1) c3] 25) ∧ SlO (u3.setCell ⟨g9, 2, none⟩ (.slice a3 (j + 1) c3)) 25 a3 (j + 1) c3 (rsF L (P.app (.cons kk nn dd .nil))) bs3 ∧ bs3.Nodup ∧ (∀ x ∈ bs3, g9 < x) ∧ (c3 = 0 → a3 = none)) := by
              obtain ⟨s1, s2, s3, s4, s5, s6, s7, s8, s9, s10, s11, s12⟩ := LB.out
              have hgt : ∀ x ∈ bs3, g9 < x := fun x hx => by
                rcases h3 x hx with h | h | h
                · exact (s7 x h).1
                · have := s11 x h; omega
                · have h7 := lt_of_block s4; omega
              refine ⟨grownInto (Tn.freshR s1 h4 (fun x hx => by have := (s7 x hx).1; omega)) g6 (by omega), ?_, ?_, heap_setCell_same u3 g9 2 _ _ _ hb9, ?_, h2, hgt, fun h => by omega⟩
              · have e1 := (h4.block rm (lt_of_block s2.rB) (fun hx => by have := (s7 rm hx).1; omega)).trans s2.rB
                exact (g6.block rm (lt_of_block e1) (fun e => by have : rm = g9 := (by injection e); omega)).trans e1
              · have e1 := (h4.block (q + 1) (lt_of_block s3) (fun hx => by have := (s7 _ hx).1; omega)).trans s3
                exact (g6.block (q + 1) (lt_of_block e1) (fun e => by have : q + 1 = g9 := (by injection e); omega)).trans e1
              · rw [HRC.out]
                exact h1.kept g6 (fun x hx e => by have := hgt x hx; have : x = g9 := (by injection e); omega)
            have hPl2 : (P.app (.cons kk nn dd .nil)).len = j + 1 := by rw [F.app_len, hPl]; rfl
            clear h1 h2 h3 h4 h5 g6 LB hb9 v0 v1 v2 t0 t1 t2 HRC
            go_roundw
            case rel => exact ⟨j + 1, P.app (.cons kk nn dd .nil), R', a3, c3, bs3, rj - (1 + rd.size), by omega, by go_num, hPl2, by omega, ⟨HPP.out, HK.out.2, HK.out.1⟩, LD⟩
            case measure => simp [intOf]; omega
        · obtain rfl : j = l := by omega
          obtain rfl : R = .nil := F.nil_of_len (by omega)
          have hPd : P = d := by have := HP.out.1; rwa [F.app_nil] at this
          subst hPd
          have HW : Hid (wOk L k n P depth room = true) := by
            show _ = _
            rw [wOk_stay HT.out.1]
            have := HP.out.2
            simp only [Bool.and_eq_true, decide_eq_true_eq]
            omega
          have fin := fill3 (.int .i64 k) (.int .i64 n) (.slice av j cv) HR.out.2.2.1
          have FIN : Hid _ := fin
          obtain ⟨⟨z0, z1, z2⟩, e0, e1, e2⟩ := three HR.out.2.2.1
          obtain ⟨⟨y0, y1, y2⟩, -⟩ := three HR.out.2.2.2.1
          have hne9 : g9 ≠ q + 1 := by omega
          clear fin
          go_wp2
          (try simp only [Exit.inBlock, Exit.then])
          refine bodyPost_ret (results_cell2 (P := Try.prog) Try.results78 _ _ (q + 1) _ _ _ _ rfl FIN.out.1 Try.underlying25 rfl (by kernel_rfl)) rfl ?_
          obtain ⟨r1, r2, r3, r4, r5, r6, r7, r8⟩ := HR.out
          have hk := FIN.out.2
          refine ⟨grownInto (grown_trans (grownWeak LS.out.2.2.2.2.2.2.2 _) r1) hk (by omega), ?_⟩
          rw [if_pos HW.out, HT.out.1]
          simp only [rsF_len]
          refine ⟨av, cv, bs, by rw [hPl]; rfl, ?_, ⟨by rw [hPl]; exact r5.kept hk (fun x hx e => by have := r7 x hx; have h1 : x = q + 1 := (by injection e); omega), r6, fun x hx => by have := r7 x hx; omega⟩, r8⟩
          have h0 := (hk.block rm (lt_of_block r2) (fun e => by have : rm = q + 1 := (by injection e); omega)).trans r2
          rw [h0]
          have : rj = room - (1 + (rsF L P).size) := by have := HP.out.2.1; omega
          rw [this]
end Go.Proofs.Ytmlganaiajhjeaa.By
