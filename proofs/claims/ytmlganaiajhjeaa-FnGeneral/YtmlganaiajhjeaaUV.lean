/-
  resolve and impl.Resolve by their contracts. No statement is proved here.
-/
import Derived.Test.YtmlganaiajhjeaaUW
import Derived.Laws.EntriesVeiled
namespace Go.Proofs.Ytmlganaiajhjeaa.By
open Go.RowKit
set_option linter.unusedVariables false
set_option linter.unusedSimpArgs false

theorem alloc5_blocks (w : World) (A B C D E : Obj) : ∀ u, u = ((((w.alloc A).alloc B).alloc C).alloc D).alloc E → w.grownBy u none ∧ u.heap[w.heap.size]? = some A ∧ u.heap[w.heap.size + 1 + 1]? = some C ∧ u.heap[w.heap.size + 1 + 1 + 1]? = some D ∧ u.heap[w.heap.size + 1 + 1 + 1 + 1]? = some E ∧ u.heap.size = w.heap.size + 1 + 1 + 1 + 1 + 1 := by
  rintro u rfl
  have e1 : (w.alloc A).heap.size = w.heap.size + 1 := by simp
  have e2 : ((w.alloc A).alloc B).heap.size = w.heap.size + 1 + 1 := by simp
  have e3 : (((w.alloc A).alloc B).alloc C).heap.size = w.heap.size + 1 + 1 + 1 := by simp
  have e4 : ((((w.alloc A).alloc B).alloc C).alloc D).heap.size = w.heap.size + 1 + 1 + 1 + 1 := by simp
  refine ⟨grown_alloc (grown_alloc (grown_alloc (grown_alloc (grown_alloc (World.grownBy.refl w none) A) B) C) D) E, ?_, ?_, ?_, ?_, by simp⟩
  · rw [heap_alloc_old _ _ (by omega), heap_alloc_old _ _ (by omega), heap_alloc_old _ _ (by omega), heap_alloc_old _ _ (by omega)]; exact heap_alloc_new w A
  · rw [heap_alloc_old _ _ (by omega), heap_alloc_old _ _ (by omega)]
    have := heap_alloc_new ((w.alloc A).alloc B) C; rw [e2] at this; exact this
  · rw [heap_alloc_old _ _ (by omega)]
    have := heap_alloc_new (((w.alloc A).alloc B).alloc C) D; rw [e3] at this; exact this
  · have := heap_alloc_new ((((w.alloc A).alloc B).alloc C).alloc D) E; rw [e4] at this; exact this

/-- What comes of resolving. -/
def RsA (w : World) (ok : Bool) (r : Int × Int × F) (e : Ending) (u : World) : Prop :=
  w.grownBy u none ∧ (if ok = true then ∃ a' c' bs, e = .returned (.tuple #[.agg #[.int .i64 r.1, .int .i64 r.2.1, .slice a' r.2.2.len c'], .bool true]) ∧ New w u 25 a' r.2.2.len c' r.2.2 bs ∧ (c' = 0 → a' = none)
    else e = .returned (.tuple #[.agg #[.int .i64 0, .int .i64 0, .slice none 0 0], .bool false]))

set_option maxRecDepth 8000 in
set_option maxHeartbeats 2000000 in
theorem resolveT (B0 p m : Nat) (oa : Option Addr) (oc : Nat) (L : B) (hL : wfB L) (hlen : L.len ≤ 200000) (d : F) (k n : Int) (a : Option Addr) (l c : Nat) (w : World) (h : BS B0 w p m oa oc L) (hS : SlD w 25 a l d) (hf : fitsB k n l = true) (hfd : fitF d = true) (hds : d.size ≤ 59) :
    Calls Try.prog 56 #[.pointer (some ⟨p, 0, none⟩), .agg #[.int .i64 k, .int .i64 n, .slice a l c]] w fun e u => RsA w (wOk L k n d 10 60) (rsT L (k, n, d)) e u := by
  have H0 : Hid (BS B0 w p m oa oc L ∧ SlD w 25 a l d) := ⟨h, hS⟩
  clear h hS
  go_enter Try.func56, Try.ntmps56
  go_wp2_with fail
  obtain ⟨U5, eU⟩ : ∃ U5, U5 = ((((w.alloc (.cells #[.pointer (some ⟨p, 0, none⟩)] 79)).alloc (.cells #[.int .i64 k, .int .i64 n, .slice a l c] 25)).alloc (.cells #[.int .i64 0, .int .i64 0, .slice none 0 0] 25)).alloc (.cells #[.int .i64 60] 3)).alloc (.cells #[.func (Fn.func 78) #[] #[.pointer (some ⟨w.heap.size, 0, none⟩), .pointer (some ⟨w.heap.size + 1 + 1 + 1 + 1, 0, none⟩), .pointer (some ⟨w.heap.size + 1 + 1 + 1, 0, none⟩)]] 115) := ⟨_, rfl⟩
  obtain ⟨g5, b0, b2, b3, b4, bsz⟩ := alloc5_blocks w _ _ _ _ _ U5 eU
  rw [← eU]
  have hord : ∀ g, (Value.slice oa L.len oc).ownBlock = some g → g ≠ w.heap.size + 1 + 1 + 1 := fun g hg => by have := (H0.out.1.order.lt g hg).2; omega
  have hE : Ev B0 U5 w.heap.size (w.heap.size + 1 + 1 + 1 + 1) (w.heap.size + 1 + 1 + 1) p m oa oc L 60 := ⟨H0.out.1.none g5, b0, b4, b3, hord⟩
  have CC : Hid _ := walkT B0 w.heap.size (w.heap.size + 1 + 1 + 1 + 1) (w.heap.size + 1 + 1 + 1) p m oa oc L hL hlen (10 * (L.len + 2) + rkT L k n + 1) d k n a l c 10 60 U5 (Nat.lt_succ_self _) hE (H0.out.2.none g5) hf hfd hds (by omega) (by omega)
  have HB : Hid (w.grownBy U5 none ∧ U5.heap[w.heap.size + 1 + 1]? = some (.cells #[.int .i64 0, .int .i64 0, .slice none 0 0] 25 (0, 0)) ∧ U5.heap.size = w.heap.size + 1 + 1 + 1 + 1 + 1) := ⟨g5, b2, bsz⟩
  clear g5 b0 b2 b3 b4 bsz hord hE H0 hL hf hfd hds eU
  refine Calls.mono CC.out ?_
  rintro e u ⟨hg, he⟩
  have e3 : u.heap[w.heap.size + 1 + 1]? = some (.cells #[.int .i64 0, .int .i64 0, .slice none 0 0] 25 (0, 0)) := (hg.block _ (by rw [HB.out.2.2]; omega) (by simp)).trans HB.out.2.1
  have gw : w.grownBy u none := grown_into HB.out.1 hg (by omega)
  generalize eq : w.heap.size = q at *
  obtain ⟨⟨z0, z1, z2⟩, f0, f1, f2⟩ := three e3
  cases hwo : wOk L k n d 10 60 with
  | false =>
    rw [hwo] at he
    simp only [Bool.false_eq_true, if_false] at he
    subst he
    have fin := fill3 (.int .i64 0) (.int .i64 0) (.slice none 0 0) e3
    have FIN : Hid _ := And.intro gw fin
    have HW : Hid (wOk L k n d 10 60 = false) := hwo
    clear hwo gw e3 fin hg HB CC
    simp only []
    go_wp2
    (try simp only [Exit.inBlock, Exit.then])
    refine bodyPost_ret (results_cell2 (P := Try.prog) Try.results56 _ _ (q + 1 + 1) _ _ _ _ rfl FIN.out.2.1 Try.underlying25 rfl (by kernel_rfl)) rfl ?_
    refine ⟨grown_into FIN.out.1 FIN.out.2.2 (by omega), ?_⟩
    rw [HW.out]
    simp
  | true =>
    rw [hwo, if_pos rfl] at he
    obtain ⟨a', c', bs, he, -, hN, hna⟩ := he
    have HW : Hid (wOk L k n d 10 60 = true) := hwo
    clear hwo
    generalize eR : rsT L (k, n, d) = R at *
    have ER : Hid (rsT L (k, n, d) = R) := eR
    clear eR
    obtain ⟨rk, rn, rd⟩ := R
    simp only [] at he hN
    subst he
    have fin := fill3 (.int .i64 rk) (.int .i64 rn) (.slice a' rd.len c') e3
    have FIN : Hid _ := And.intro gw fin
    have HN : Hid (New U5 u 25 a' rd.len c' rd bs ∧ (c' = 0 → a' = none)) := ⟨hN, hna⟩
    clear gw e3 fin hg CC hN hna
    simp only []
    go_wp2
    (try simp only [Exit.inBlock, Exit.then])
    refine bodyPost_ret (results_cell2 (P := Try.prog) Try.results56 _ _ (q + 1 + 1) _ _ _ _ rfl FIN.out.2.1 Try.underlying25 rfl (by kernel_rfl)) rfl ?_
    rw [ER.out]
    refine ⟨grown_into FIN.out.1 FIN.out.2.2 (by omega), ?_⟩
    rw [if_pos HW.out]
    have hk := FIN.out.2.2
    have hz := HB.out.2.2
    exact ⟨a', c', bs, rfl, ⟨HN.out.1.1.kept hk (fun x hx e => by have := HN.out.1.2.2 x hx; have h1 : x = q + 1 + 1 := (by injection e); omega), HN.out.1.2.1, fun x hx => by have := HN.out.1.2.2 x hx; omega⟩, HN.out.2⟩



set_option maxRecDepth 8000 in
set_option maxHeartbeats 2000000 in
theorem implResolveT (f : B) (a : Option Addr) (l c : Nat) (d : F) (k n : Int) (at' : Option Addr) (lt ct : Nat) (w : World) (h : SlBD w 25 44 a l f) (hS : SlD w 25 at' lt d) :
    Calls Try.prog 19 #[.slice a l c, .agg #[.int .i64 k, .int .i64 n, .slice at' lt ct]] w fun e u => RsA w (resOk f k n d) (rsT f (k, n, d)) e u := by
  obtain ⟨b0, b1, bsz⟩ := alloc2_blocks w (.cells #[.int .i64 k, .int .i64 n, .slice at' lt ct] 25) (.cells #[.int .i64 0, .int .i64 0, .slice none 0 0] 25)
  have g0 := grown_alloc (grown_alloc (World.grownBy.refl w none) (.cells #[.int .i64 k, .int .i64 n, .slice at' lt ct] 25)) (.cells #[.int .i64 0, .int .i64 0, .slice none 0 0] 25)
  have C0 : Hid _ := bindsOfT f a l c _ (h.none g0)
  have L0 : Hid (w.grownBy _ none ∧ _ = some (Obj.cells #[.int .i64 k, .int .i64 n, .slice at' lt ct] 25) ∧ _ = some (Obj.cells #[.int .i64 0, .int .i64 0, .slice none 0 0] 25) ∧ _ = w.heap.size + 1 + 1 ∧ SlD _ 25 at' lt d) := ⟨g0, b0, b1, bsz, hS.none g0⟩
  clear b0 b1 bsz g0 h hS
  go_enter Try.func19, Try.ntmps19
  go_wp2_with fail
  generalize (w.alloc (.cells #[.int .i64 k, .int .i64 n, .slice at' lt ct] 25)).alloc (.cells #[.int .i64 0, .int .i64 0, .slice none 0 0] 25) = W0 at *
  generalize eq : w.heap.size = q at *
  refine Calls.mono C0.out ?_
  rintro e w1 ⟨hg, he⟩
  have FU : Hid (∀ u, w1.grownBy u none → w.grownBy u none ∧ u.heap[q]? = some (Obj.cells #[.int .i64 k, .int .i64 n, .slice at' lt ct] 25) ∧ u.heap[q + 1]? = some (Obj.cells #[.int .i64 0, .int .i64 0, .slice none 0 0] 25) ∧ q + 1 < u.heap.size ∧ SlD u 25 at' lt d) := fun u hu0 => by
    have hu := grown_trans hg hu0
    exact ⟨grown_trans L0.out.1 hu, (hu.block _ (lt_of_block L0.out.2.1) (by simp)).trans L0.out.2.1, (hu.block _ (lt_of_block L0.out.2.2.1) (by simp)).trans L0.out.2.2.1, by have h1 := hu.size; have h2 := L0.out.2.2.2.1; omega, L0.out.2.2.2.2.none hu⟩
  clear C0 L0 hg
  cases hb : bindsV f with
  | false =>
    rw [hb] at he
    simp only [Bool.false_eq_true, if_false] at he
    subst he
    have HW : Hid (resOk f k n d = false) := by show _ = _; unfold resOk; rw [hb]; rfl
    simp only []
    have fin := fill3 (.int .i64 0) (.int .i64 0) (.slice none 0 0) (FU.out _ (World.grownBy.refl w1 none)).2.2.1
    have FIN : Hid _ := And.intro (FU.out _ (World.grownBy.refl w1 none)).1 fin
    obtain ⟨⟨z0, z1, z2⟩, f0, f1, f2⟩ := three (FU.out _ (World.grownBy.refl w1 none)).2.2.1
    clear fin FU
    go_wp2
    (try simp only [Exit.inBlock, Exit.then])
    refine bodyPost_ret (results_cell2 (P := Try.prog) Try.results19 _ _ (q + 1) _ _ _ _ rfl FIN.out.2.1 Try.underlying25 rfl (by kernel_rfl)) rfl ?_
    refine ⟨grown_into FIN.out.1 FIN.out.2.2 (by omega), ?_⟩
    rw [HW.out]
    simp
  | true =>
    rw [hb, if_pos rfl] at he
    obtain ⟨p, m, oa, oc, he, hBS⟩ := he
    subst he
    have HB : Hid (BS W0.heap.size w1 p m oa oc f ∧ bindsV f = true) := ⟨hBS, hb⟩
    obtain ⟨⟨y0, y1, y2⟩, -⟩ := three (FU.out _ (World.grownBy.refl w1 none)).2.1
    have C1 : Hid _ := implTyOkT d k n at' lt ct w1 (FU.out _ (World.grownBy.refl w1 none)).2.2.2.2.reads
    clear hBS hb
    simp only []
    go_wp2_with fail
    refine Calls.mono C1.out ?_
    rintro e w2 ⟨rfl, hg⟩
    have G2 : Hid (w1.grownBy w2 none) := hg
    clear C1 hg y0 y1 y2
    simp only []
    cases hok : okT k n d with
    | false =>
      have HW : Hid (resOk f k n d = false) := by show _ = _; unfold resOk; rw [hok]; simp
      clear hok
      have fin := fill3 (.int .i64 0) (.int .i64 0) (.slice none 0 0) (FU.out _ G2.out).2.2.1
      have FIN : Hid _ := And.intro (FU.out _ G2.out).1 fin
      obtain ⟨⟨z0, z1, z2⟩, f0, f1, f2⟩ := three (FU.out _ G2.out).2.2.1
      clear fin FU
      go_wp2
      (try simp only [Exit.inBlock, Exit.then])
      refine bodyPost_ret (results_cell2 (P := Try.prog) Try.results19 _ _ (q + 1) _ _ _ _ rfl FIN.out.2.1 Try.underlying25 rfl (by kernel_rfl)) rfl ?_
      refine ⟨grown_into FIN.out.1 FIN.out.2.2 (by omega), ?_⟩
      rw [HW.out]
      simp
    | true =>
      have hok' := (okT_iff k n d).1 hok
      have hwf := bindsV_wf HB.out.2
      have CR : Hid _ := resolveT W0.heap.size p m oa oc f hwf.1 (by omega) d k n at' lt ct w2 (HB.out.1.none G2.out) (FU.out _ G2.out).2.2.2.2 (by rw [← (FU.out _ G2.out).2.2.2.2.1]; exact hok'.1) hok'.2.1 (by omega)
      have HW0 : Hid (resOk f k n d = wOk f k n d 10 60) := by show _ = _; unfold resOk; rw [HB.out.2, hok]; rfl
      obtain ⟨⟨y0, y1, y2⟩, -⟩ := three (FU.out _ G2.out).2.1
      clear hok hok' hwf
      go_wp2_with fail
      refine Calls.mono CR.out ?_
      rintro e w3 ⟨hg, he⟩
      have G3 : Hid (w1.grownBy w3 none) := grown_trans G2.out hg
      have hq2 : q + 1 < w2.heap.size := (FU.out _ G2.out).2.2.2.1
      clear CR y0 y1 y2 hg
      cases hwo : wOk f k n d 10 60 with
      | false =>
        rw [hwo] at he
        simp only [Bool.false_eq_true, if_false] at he
        subst he
        have HW : Hid (resOk f k n d = false) := HW0.out.trans hwo
        clear hwo
        simp only []
        have fin := fill3 (.int .i64 0) (.int .i64 0) (.slice none 0 0) (FU.out _ G3.out).2.2.1
        have FIN : Hid _ := And.intro (FU.out _ G3.out).1 fin
        obtain ⟨⟨z0, z1, z2⟩, f0, f1, f2⟩ := three (FU.out _ G3.out).2.2.1
        clear fin FU
        go_wp2
        (try simp only [Exit.inBlock, Exit.then])
        refine bodyPost_ret (results_cell2 (P := Try.prog) Try.results19 _ _ (q + 1) _ _ _ _ rfl FIN.out.2.1 Try.underlying25 rfl (by kernel_rfl)) rfl ?_
        refine ⟨grown_into FIN.out.1 FIN.out.2.2 (by omega), ?_⟩
        rw [HW.out]
        simp
      | true =>
        rw [hwo, if_pos rfl] at he
        obtain ⟨a', c', bs, he, hN, hna⟩ := he
        have HW : Hid (resOk f k n d = true) := HW0.out.trans hwo
        clear hwo HW0
        generalize eR : rsT f (k, n, d) = R at *
        have ER : Hid (rsT f (k, n, d) = R) := eR
        clear eR
        obtain ⟨rk, rn, rd⟩ := R
        simp only [] at he hN
        subst he
        have fin := fill3 (.int .i64 rk) (.int .i64 rn) (.slice a' rd.len c') (FU.out _ G3.out).2.2.1
        have FIN : Hid _ := And.intro (FU.out _ G3.out).1 fin
        have HN : Hid (New w2 w3 25 a' rd.len c' rd bs ∧ (c' = 0 → a' = none)) := ⟨hN, hna⟩
        obtain ⟨⟨z0, z1, z2⟩, f0, f1, f2⟩ := three (FU.out _ G3.out).2.2.1
        clear fin FU hN hna
        simp only []
        go_wp2
        (try simp only [Exit.inBlock, Exit.then])
        refine bodyPost_ret (results_cell2 (P := Try.prog) Try.results19 _ _ (q + 1) _ _ _ _ rfl FIN.out.2.1 Try.underlying25 rfl (by kernel_rfl)) rfl ?_
        rw [ER.out]
        refine ⟨grown_into FIN.out.1 FIN.out.2.2 (by omega), ?_⟩
        rw [if_pos HW.out]
        have hk := FIN.out.2.2
        exact ⟨a', c', bs, rfl, ⟨HN.out.1.1.kept hk (fun x hx e => by have := HN.out.1.2.2 x hx; have h1 : x = q + 1 := (by injection e); omega), HN.out.1.2.1, fun x hx => by have := HN.out.1.2.2 x hx; omega⟩, HN.out.2⟩
end Go.Proofs.Ytmlganaiajhjeaa.By
