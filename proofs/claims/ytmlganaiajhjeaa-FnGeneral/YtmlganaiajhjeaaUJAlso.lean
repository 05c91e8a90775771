/-
  Several texts in one (TRepl, UJ). No statement is proved here.
-/
import Derived.Test.YtmlganaiajhjeaaTSwp
import Derived.Test.YtmlganaiajhjeaaTOpenAlso
import Derived.Test.YtmlganaiajhjeaaUN
import Derived.Test.YtmlganaiajhjeaaUPb
import Derived.Test.YtmlganaiajhjeaaUCAlso
namespace Go.Proofs.Ytmlganaiajhjeaa.By
open Go.RowKit
set_option linter.unusedVariables false
set_option linter.unusedSimpArgs false

/-- What it does with a list, at trees of less than m parts. -/
def Repl (E : F) (ae : Option Addr) (le ce m : Nat) : Prop := ∀ (d : F) (k n : Int) (a : Option Addr) (l c p : Nat) (w : World), d.size < m → d.size ≤ 100000 → SlF w a l d → SlF w ae le E → fitsB k n l = true → okF d p = true →
    Calls Try.prog 42 #[.agg #[.int .i64 k, .int .i64 n, .slice a l c], .slice ae le ce] w fun e u => ∃ a' l2 c' bs, e = .returned (.agg #[.int .i64 (subT E k n d).1, .int .i64 (subT E k n d).2.1, .slice a' l2 c']) ∧ w.grownBy u none ∧ New w u 25 a' l2 c' (subT E k n d).2.2 bs ∧ (c' = 0 → a' = none)
theorem oneS {w : World} {g : Nat} {t : TypeId} {c0 : Value} (h : w.heap[g]? = some (.cells #[c0] t (0, 0))) : w.cell? ⟨g, 0, none⟩ = some c0 := by
  rw [cell_of_row w g _ _ t (0, 0) h]; rfl

set_option maxRecDepth 8000 in
set_option maxHeartbeats 4000000 in
/-- The closure. -/
theorem cloT (E : F) (ae : Option Addr) (le ce q0 : Nat) (HE : le = 0 ∨ (okL E = true ∧ ∀ m, Repl .nil none 0 0 m)) (w : World) (hq : w.heap[q0]? = some (.cells #[.slice ae le ce] 23 (0, 0))) (hS : SlF w ae le E) : Clo E q0 w := by
  intro n u hu hn0 hn1
  have hq1 := (hu.block _ (lt_of_block hq) (by simp)).trans hq
  have hS1 := hS.none hu
  clear hq hS
  have b1 := heap_alloc_new u (.cells #[.int .i64 0, .int .i64 0, .slice none 0 0] 25)
  have g0 := World.grownBy_alloc u (.cells #[.int .i64 0, .int .i64 0, .slice none 0 0] 25) none
  have hle : le ≤ 9223372036854775807 := hS1.2.1
  have x0 := oneS hq1
  have hql := lt_of_block hq1
  have L0 : Hid (u.grownBy _ none ∧ _ = some (Obj.cells #[.int .i64 0, .int .i64 0, .slice none 0 0] 25) ∧ SlF u ae le E) := ⟨g0, b1, hS1⟩
  have HE2 : Hid _ := HE
  clear hS1 g0 b1 HE hq1
  by_cases hn : n < le
  · obtain ⟨nn, rfl⟩ : ∃ nn : Nat, n = (nn : Int) := ⟨n.toNat, by omega⟩
    rcases L0.out.2.2.cases with ⟨hle0, -⟩ | ⟨be, oe, rfl, hinE, hlE, -⟩
    · exact absurd hn (by omega)
    obtain ⟨kk, n2, d2, a2, l2, c2, hnth, c0, c1, c2', hd2⟩ := (hinE.none L0.out.1).nth (i := nn) (by omega)
    rcases HE2.out with hz | ⟨hokE, hcp⟩
    · exact absurd hn (by omega)
    have hok2 := okL_nth hokE hnth
    simp only [okT, Bool.and_eq_true, decide_eq_true_eq] at hok2
    have C2 : Hid _ := hcp (d2.size + 1) d2 kk n2 a2 l2 c2 9 _ (Nat.lt_succ_self _) (by omega) hd2 ⟨rfl, by omega, .inl rfl⟩ (by rw [← hd2.1]; exact hok2.1.1) hok2.1.2
    rw [subT_nil] at C2
    have ES : Hid (subT E 7 (nn : Int) .nil = (kk, n2, d2)) := subT_some (by simpa using hnth)
    have hnl : (nn : Int) < (le : Int) := hn
    clear hinE hnth hd2 hok2 hokE hcp HE2
    go_enter Try.func71, Try.ntmps71
    go_wp2_with fail
    refine Calls.mono C2.out ?_
    rintro e w2 ⟨a3, l3, c3, bs, rfl, hg, hnew, hna⟩
    obtain ⟨g1, b1, -⟩ := L0.out
    generalize e1 : u.heap.size = p1 at *
    have b1' := (hg.block _ (lt_of_block b1) (by simp)).trans b1
    obtain ⟨⟨v0, v1, v2⟩, f0, f1, f2⟩ := three b1'
    obtain ⟨d1, k1⟩ := fill3 (.int .i64 kk) (.int .i64 n2) (.slice a3 l3 c3) b1'
    have hbs : ∀ x ∈ bs, p1 < x := fun x hx => Nat.lt_of_lt_of_le (lt_of_block b1) (hnew.2.2 x hx)
    have FQ : Hid _ := And.intro d1 (And.intro (grown_into (grown_trans g1 hg) k1 (by omega)) (And.intro (show New u _ 25 a3 l3 c3 d2 bs from ⟨hnew.1.kept k1 (fun x hx => by have := hbs x hx; simp; omega), hnew.2.1, fun x hx => by have := hbs x hx; omega⟩) hna))
    clear C2 hg hnew hna g1 b1 b1' d1 k1 hbs c0 c1 c2' L0 x0
    simp only []
    go_wp2
    (try simp only [Exit.inBlock, Exit.then])
    refine bodyPost_ret (results_cell_row (P := Try.prog) Try.results71 _ _ p1 _ _ _ _ rfl FQ.out.1 Try.underlying25 rfl (by kernel_rfl)) rfl ?_
    rw [ES.out]
    exact ⟨a3, l3, c3, bs, rfl, FQ.out.2.1, FQ.out.2.2.1, FQ.out.2.2.2⟩
  · have ES : Hid (subT E 7 n .nil = (7, n, .nil)) := subT_none (by have := L0.out.2.2.1; omega)
    have FQ : Hid _ := And.intro (heap_alloc_new u (.cells #[.int .i64 7, .int .i64 n, .slice none 0 0] 25)) (World.grownBy_alloc u (.cells #[.int .i64 7, .int .i64 n, .slice none 0 0] 25) none)
    have hnl : ¬ n < (le : Int) := hn
    clear HE2 L0
    go_enter Try.func71, Try.ntmps71
    go_wp2
    (try simp only [Exit.inBlock, Exit.then])
    refine bodyPost_ret (results_cell_row (P := Try.prog) Try.results71 _ _ u.heap.size _ _ _ _ rfl FQ.out.1 Try.underlying25 rfl (by kernel_rfl)) rfl ?_
    rw [ES.out]
    first | exact ⟨none, 0, 0, [], rfl, FQ.out.2, New.nil _ _ _, fun _ => rfl⟩ | exact ⟨none, 0, 0, rfl, FQ.out.2, ⟨[], New.nil _ _ _⟩, fun _ => rfl⟩

set_option maxRecDepth 8000 in
set_option maxHeartbeats 4000000 in
theorem replT (E : F) (ae : Option Addr) (le ce : Nat) (HE : le = 0 ∨ (okL E = true ∧ ∀ m, Repl .nil none 0 0 m)) (m : Nat) : Repl E ae le ce m := by
  intro d k n a l c p w hm hm2 h hE hf hok
  have ga := World.grownBy_alloc w (.cells #[.int .i64 k, .int .i64 n, .slice a l c] 25) none
  have ba := heap_alloc_new w (.cells #[.int .i64 k, .int .i64 n, .slice a l c] 25)
  have gb := World.grownBy_alloc (w.alloc (.cells #[.int .i64 k, .int .i64 n, .slice a l c] 25)) (.cells #[.slice ae le ce] 23) none
  have bb := heap_alloc_new (w.alloc (.cells #[.int .i64 k, .int .i64 n, .slice a l c] 25)) (.cells #[.slice ae le ce] 23)
  have gc := World.grownBy_alloc ((w.alloc (.cells #[.int .i64 k, .int .i64 n, .slice a l c] 25)).alloc (.cells #[.slice ae le ce] 23)) (.cells #[.int .i64 0, .int .i64 0, .slice none 0 0] 25) none
  have bc := heap_alloc_new ((w.alloc (.cells #[.int .i64 k, .int .i64 n, .slice a l c] 25)).alloc (.cells #[.slice ae le ce] 23)) (.cells #[.int .i64 0, .int .i64 0, .slice none 0 0] 25)
  have ba2 := (gc.block _ (Nat.lt_of_lt_of_le (lt_of_block ba) gb.size) (by simp)).trans ((gb.block _ (lt_of_block ba) (by simp)).trans ba)
  have bb2 := (gc.block _ (lt_of_block bb) (by simp)).trans bb
  have G := grown_trans (grown_trans ga gb) gc
  have s1 : (w.alloc (.cells #[.int .i64 k, .int .i64 n, .slice a l c] 25)).heap.size = w.heap.size + 1 := by simp
  have s2 : ((w.alloc (.cells #[.int .i64 k, .int .i64 n, .slice a l c] 25)).alloc (.cells #[.slice ae le ce] 23)).heap.size = w.heap.size + 1 + 1 := by simp
  rw [s1] at bb2
  rw [s2] at bc
  obtain ⟨sk, sn, sd, hsub⟩ : ∃ sk sn sd, subT E k n d = (sk, sn, sd) := ⟨_, _, _, rfl⟩
  have HC : Hid _ := swapT E (w.heap.size + 1) m d k n a l c p _ hm hm2 (h.none G) (cloT E ae le ce _ HE _ bb2 (hE.none G)) hf hok
  rw [hsub] at HC
  have ES : Hid (subT E k n d = (sk, sn, sd)) := hsub
  have L0 : Hid (w.grownBy _ none ∧ _ = some (Obj.cells #[.int .i64 0, .int .i64 0, .slice none 0 0] 25)) := ⟨G, bc⟩
  obtain ⟨⟨x0, x1, x2⟩, -⟩ := three ba2
  clear ga ba gb bb gc bc ba2 bb2 G s1 s2 h hE hf hok HE hsub
  go_enter Try.func42, Try.ntmps42
  go_wp2_with fail
  refine Calls.mono HC.out ?_
  rintro e w2 ⟨a3, l3, c3, bs, rfl, hg, hnew, hna⟩
  obtain ⟨g1, b1⟩ := L0.out
  have b1' := (hg.block _ (lt_of_block b1) (by simp)).trans b1
  obtain ⟨⟨v0, v1, v2⟩, f0, f1, f2⟩ := three b1'
  obtain ⟨d1, k1⟩ := fill3 (.int .i64 sk) (.int .i64 sn) (.slice a3 l3 c3) b1'
  have hbs : ∀ x ∈ bs, w.heap.size + 1 + 1 < x := fun x hx => Nat.lt_of_lt_of_le (lt_of_block b1) (hnew.2.2 x hx)
  have FQ : Hid _ := And.intro d1 (And.intro (grown_into (grown_trans g1 hg) k1 (by omega)) (And.intro (show New w _ 25 a3 l3 c3 sd bs from ⟨hnew.1.kept k1 (fun x hx => by have := hbs x hx; simp; omega), hnew.2.1, fun x hx => by have := hbs x hx; omega⟩) hna))
  clear HC hg hnew hna g1 b1 b1' d1 k1 hbs x0 x1 x2 L0
  simp only []
  go_wp2
  (try simp only [Exit.inBlock, Exit.then])
  refine bodyPost_ret (results_cell_row (P := Try.prog) Try.results42 _ _ (w.heap.size + 1 + 1) _ _ _ _ rfl FQ.out.1 Try.underlying25 rfl (by kernel_rfl)) rfl ?_
  rw [ES.out]
  exact ⟨a3, l3, c3, bs, rfl, FQ.out.2.1, FQ.out.2.2.1, FQ.out.2.2.2⟩
end Go.Proofs.Ytmlganaiajhjeaa.By

namespace Go.Proofs.Ytmlganaiajhjeaa.By
open Go.RowKit
set_option linter.unusedVariables false
set_option linter.unusedSimpArgs false

theorem dom_nth {P Q : B} {v k n : Int} {d : F} : (P.app (.cons v k n d Q)).dom.getD P.len 0 = v := by
  rw [B.dom_app, ← B.dom_len, List.getD_eq_getElem?_getD, List.getElem?_append_right (Nat.le_refl _)]
  simp [B.dom]
theorem find_at {P Q : B} {v k n : Int} {d : F} (h : wfB (P.app (.cons v k n d Q))) : (P.app (.cons v k n d Q)).find v = some (k, n, d) := by
  have hn := (wfB_dom h).1
  rw [B.dom_app] at hn
  have hv : v ∉ P.dom := fun hx => (List.nodup_append.1 hn).2.2 v hx v (by simp [B.dom]) rfl
  rw [B.find_app]
  have : P.find v = none := by
    have := B.find_dom P v
    cases hf : P.find v with
    | none => rfl
    | some y => rw [hf] at this; exact absurd (List.contains_iff_mem.1 this.symm) hv
  rw [this]
  simp [B.find]

set_option maxRecDepth 8000 in
set_option maxHeartbeats 8000000 in
theorem listT (B0 p m : Nat) (oa : Option Addr) (oc : Nat) (L : B) (w : World) (hL : wfB L) (hBS : BS B0 w p m oa oc L) :
    Calls Try.prog 57 #[.pointer (some ⟨p, 0, none⟩)] w fun e u => ∃ a c bs, e = .returned (.slice a L.len c) ∧ NewB w u 25 44 a L.len c L bs ∧ w.grownBy u none ∧ (c = 0 → a = none) := by
  have hlen := wfB_len hL
  obtain ⟨T, hM, hV⟩ := hBS.has
  obtain ⟨⟨x0, x1⟩, -⟩ := two hBS.box
  have HB : Hid (MapIs w m L.len T ∧ Vals w T L ∧ wfB L ∧ w.heap[p]? = some (.cells #[.map (some m), .slice oa L.len oc] 112 (0, 0)) ∧ ReadsI w oa L.len L.dom) := ⟨hM, hV, hL, hBS.box, hBS.order.reads⟩
  clear hM hV hBS hL
  go_enter Try.func57, Try.ntmps57
  go_wp2_with fail
  clear x0 x1
  go_loopw [3, 11] (fun lst i wr => ∃ (j : Nat) (P Q : B) (av : Option Addr) (cv : Nat) (bs : List Nat), j ≤ L.len ∧ i = .int .i64 j ∧ lst = .slice av j cv ∧ P.len = j ∧ Hid (L = P.app Q ∧ w.grownBy wr none ∧ NewB w wr 25 44 av j cv P bs ∧ (cv = 0 → av = none))) (fun _ i _ => L.len - (intOf i).toNat)
  case atStart => exact ⟨0, .nil, L, none, 0, [], Nat.zero_le _, rfl, rfl, rfl, rfl, World.grownBy.refl _ _, NewB.nil _ _ _ _, fun _ => rfl⟩
  case round =>
    obtain ⟨j, P, Q, av, cv, bs, hj, rfl, rfl, hPl, HI⟩ := hrel
    by_cases hlt : j < L.len
    · have hql : Q.len = (L.len - j - 1) + 1 := by have := B.app_len P Q; rw [← HI.out.1] at this; omega
      obtain ⟨v, k, n, d, Q1, rfl, hQ1⟩ := B.cons_of_len hql
      have hfd : L.find v = some (k, n, d) := by rw [HI.out.1]; exact find_at (by rw [← HI.out.1]; exact HB.out.2.2.1)
      have hdn : L.dom.getD j 0 = v := by rw [HI.out.1, ← hPl]; exact dom_nth
      have hw2 := wfB_find HB.out.2.2.1 hfd
      simp only [] at hw2
      have hvI : I64x v := by unfold I64x; omega
      have hval := HB.out.2.1 v
      rw [hfd] at hval
      obtain ⟨a1, l1, c1, hT, hS1⟩ := hval
      simp only [] at hT hS1
      have hok := hw2.2
      simp only [okT, Bool.and_eq_true, decide_eq_true_eq] at hok
      have hlk := (HB.out.1.kept HI.out.2.1 (by simp)).look hvI
      rw [hT] at hlk
      simp only [Option.getD_some] at hlk
      have hr := HB.out.2.2.2.2.none HI.out.2.1
      rcases hr.2 with h0 | ⟨b, off, rfl, hc⟩
      · omega
      have c0 := hc j hlt
      rw [hdn] at c0
      obtain ⟨⟨x0, x1⟩, -⟩ := two ((HI.out.2.1.block p (lt_of_block HB.out.2.2.2.1) (by simp)).trans HB.out.2.2.2.1)
      have CC : Hid _ := replT .nil none 0 0 (.inl rfl) (d.size + 1) d k n a1 l1 c1 9 wr (Nat.lt_succ_self _) (by omega) (hS1.none HI.out.2.1).reads ⟨rfl, by omega, .inl rfl⟩ (by rw [← hS1.1]; exact hok.1.1) hok.1.2
      rw [subT_nil] at CC
      have HL2 : Hid (L = (P.app (.cons v k n d .nil)).app Q1 ∧ w.grownBy wr none ∧ NewB w wr 25 44 av j cv P bs ∧ (cv = 0 → av = none)) := ⟨by rw [B.app_assoc]; exact HI.out.1, HI.out.2⟩
      have hj' : (j : Int) < (L.len : Int) := by omega
      have hjL : j ≤ 200000 := by omega
      clear hr hc hok hT hS1 hfd hdn hw2 hQ1 hql
      go_wp2_with fail
      refine Calls.mono CC.out ?_
      rintro e u ⟨a2, l2, c2, bd, rfl, hg, hN, hna⟩
      have ga := World.grownBy_alloc u (.cells #[.int .i64 v, .int .i64 k, .int .i64 n, .slice a2 l2 c2] 44) none
      have hsw := HL2.out.2.1.size
      have LB : Hid (SlOB (u.alloc (.cells #[.int .i64 v, .int .i64 k, .int .i64 n, .slice a2 l2 c2] 44)) 25 44 av j cv P bs ∧ bs.Nodup ∧ (∀ x ∈ bs, w.heap.size ≤ x) ∧ (cv = 0 → av = none) ∧ SlO (u.alloc (.cells #[.int .i64 v, .int .i64 k, .int .i64 n, .slice a2 l2 c2] 44)) 25 a2 l2 c2 d bd ∧ bd.Nodup ∧ (∀ x ∈ bd, w.heap.size ≤ x) ∧ (∀ x ∈ bs, x ∉ bd) ∧ w.grownBy (u.alloc (.cells #[.int .i64 v, .int .i64 k, .int .i64 n, .slice a2 l2 c2] 44)) none) := by
        obtain ⟨-, g1, ⟨g2, g3, g4⟩, g5⟩ := HL2.out
        have gg := grown_trans hg ga
        refine ⟨g2.old gg, g3, g4, g5, hN.1.kept ga (by simp), hN.2.1, fun x hx => by have := hN.2.2 x hx; omega, fun x hx hx' => by have h1 := hN.2.2 x hx'; have h2 := g2.lt x hx; omega, grown_trans g1 gg⟩
      have NW : Hid _ := news4 (q := u.heap.size) (u := u.alloc (.cells #[.int .i64 v, .int .i64 k, .int .i64 n, .slice a2 l2 c2] 44)) (v0 := .int .i64 v) (v1 := .int .i64 k) (v2 := .int .i64 n) (v3 := .slice a2 l2 c2) (four (heap_alloc_new u _)).1
      obtain ⟨i0, hi, hz0, hz1, hz2⟩ := info_parts infoB
      clear ga hN hg hna hsw CC c0 x0 x1 hlk HI
      simp only []
      go_wp2_with (at_builtin; go_must (refine wpList_pushB rfl _ _ 37 rfl 44 25 i0 _ Try.underlying37 hi hz0 hz1 hz2 rfl av j cv P bs rfl LB.out.1 LB.out.2.1 LB.out.2.2.2.1 hjL ⟨u.heap.size, 0, none⟩ rfl v k n a2 l2 c2 NW.out d bd LB.out.2.2.2.2.1 LB.out.2.2.2.2.2.1 LB.out.2.2.2.2.2.2.2.1 ?_); intro a3 c3 bs3 u3 h1 h2 h3 h4 h5)
      refine ⟨⟨j + 1, P.app (.cons v k n d .nil), Q1, a3, c3, bs3, by omega, by go_num, rfl, by rw [B.app_len, hPl]; rfl, HL2.out.1, Tn.fresh LB.out.2.2.2.2.2.2.2.2 h4 LB.out.2.2.1, ⟨h1, h2, fun x hx => ?_⟩, fun e => by omega⟩, by simp [intOf]; omega⟩
      rcases h3 x hx with h | h | h
      · exact LB.out.2.2.1 x h
      · exact LB.out.2.2.2.2.2.2.1 x h
      · have := LB.out.2.2.2.2.2.2.2.2.size; omega
    · obtain rfl : j = L.len := by omega
      have hQ0 : Q = .nil := B.nil_of_len (by have := B.app_len P Q; rw [← HI.out.1] at this; omega)
      have HE : Hid (L = P ∧ w.grownBy wr none ∧ NewB w wr 25 44 av L.len cv P bs ∧ (cv = 0 → av = none)) := ⟨by rw [HI.out.1, hQ0, B.app_nil], HI.out.2⟩
      clear HI hQ0
      go_wp2
      go_ret
      refine ⟨av, cv, bs, rfl, ?_, HE.out.2.1, HE.out.2.2.2⟩
      have := HE.out.2.2.1
      rw [← HE.out.1] at this
      exact this
end Go.Proofs.Ytmlganaiajhjeaa.By
