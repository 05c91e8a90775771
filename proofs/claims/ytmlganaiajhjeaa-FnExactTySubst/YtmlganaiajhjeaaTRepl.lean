/-
  The program's replacing of variables, by its contract. No statement is proved here.
-/
import Derived.Test.YtmlganaiajhjeaaTSwp
import Derived.Test.YtmlganaiajhjeaaTBase
namespace Go.Proofs.Ytmlganaiajhjeaa.By
open Go.RowKit
set_option linter.unusedVariables false
set_option linter.unusedSimpArgs false

/-- What it does with a list, at trees of less than m parts. -/
def Repl (E : F) (ae : Option Addr) (le ce m : Nat) : Prop := ∀ (d : F) (k n : Int) (a : Option Addr) (l c p : Nat) (w : World), d.size < m → d.size ≤ 100000 → SlF w a l d → SlF w ae le E → fitsB k n l = true → okF d p = true →
    Calls Try.prog 42 #[.agg #[.int .i64 k, .int .i64 n, .slice a l c], .slice ae le ce] w fun e u => ∃ a' l2 c' bs, e = .returned (.agg #[.int .i64 (subT E k n d).1, .int .i64 (subT E k n d).2.1, .slice a' l2 c']) ∧ w.grownBy u none ∧ New w u 25 a' l2 c' (subT E k n d).2.2 bs ∧ (c' = 0 → a' = none)
theorem oneS {w : World} {g : Nat} {t : TypeId} {c0 : Value} (h : w.heap[g]? = some (.cells #[c0] t (0, 0))) : w.cell? ⟨g, 0, none⟩ = some c0 := by
  rw [cell_of_row w g _ _ t (0, 0) h]; rfl

set_option maxRecDepth 8000 in
set_option maxHeartbeats 4000000 in
/-- The closure. -/
theorem cloT (E : F) (ae : Option Addr) (le ce q0 : Nat) (HE : le = 0 ∨ (okL E = true ∧ ∀ m, Repl .nil none 0 0 m)) (w : World) (hq : w.heap[q0]? = some (.cells #[.slice ae le ce] 23 (0, 0))) (hS : SlF w ae le E) : Clo E q0 w := by
  intro n u hu hn0 hn1
  have hq1 := (hu.block _ (lt_of_block hq) (by simp)).trans hq
  have hS1 := hS.none hu
  clear hq hS
  have b1 := heap_alloc_new u (.cells #[.int .i64 0, .int .i64 0, .slice none 0 0] 25)
  have g0 := World.grownBy_alloc u (.cells #[.int .i64 0, .int .i64 0, .slice none 0 0] 25) none
  have hle : le ≤ 9223372036854775807 := hS1.2.1
  have x0 := oneS hq1
  have hql := lt_of_block hq1
  have L0 : Hid (u.grownBy _ none ∧ _ = some (Obj.cells #[.int .i64 0, .int .i64 0, .slice none 0 0] 25) ∧ SlF u ae le E) := ⟨g0, b1, hS1⟩
  have HE2 : Hid _ := HE
  clear hS1 g0 b1 HE hq1
  by_cases hn : n < le
  · obtain ⟨nn, rfl⟩ : ∃ nn : Nat, n = (nn : Int) := ⟨n.toNat, by omega⟩
    rcases L0.out.2.2.cases with ⟨hle0, -⟩ | ⟨be, oe, rfl, hinE, hlE, -⟩
    · exact absurd hn (by omega)
    obtain ⟨kk, n2, d2, a2, l2, c2, hnth, c0, c1, c2', hd2⟩ := (hinE.none L0.out.1).nth (i := nn) (by omega)
    rcases HE2.out with hz | ⟨hokE, hcp⟩
    · exact absurd hn (by omega)
    have hok2 := okL_nth hokE hnth
    simp only [okT, Bool.and_eq_true, decide_eq_true_eq] at hok2
    have C2 : Hid _ := hcp (d2.size + 1) d2 kk n2 a2 l2 c2 9 _ (Nat.lt_succ_self _) (by omega) hd2 ⟨rfl, by omega, .inl rfl⟩ (by rw [← hd2.1]; exact hok2.1.1) hok2.1.2
    rw [subT_nil] at C2
    have ES : Hid (subT E 7 (nn : Int) .nil = (kk, n2, d2)) := subT_some (by simpa using hnth)
    have hnl : (nn : Int) < (le : Int) := hn
    clear hinE hnth hd2 hok2 hokE hcp HE2
    go_enter Try.func71, Try.ntmps71
    go_wp2_with fail
    refine Calls.mono C2.out ?_
    rintro e w2 ⟨a3, l3, c3, bs, rfl, hg, hnew, hna⟩
    obtain ⟨g1, b1, -⟩ := L0.out
    generalize e1 : u.heap.size = p1 at *
    have b1' := (hg.block _ (lt_of_block b1) (by simp)).trans b1
    obtain ⟨⟨v0, v1, v2⟩, f0, f1, f2⟩ := three b1'
    obtain ⟨d1, k1⟩ := fill3 (.int .i64 kk) (.int .i64 n2) (.slice a3 l3 c3) b1'
    have hbs : ∀ x ∈ bs, p1 < x := fun x hx => Nat.lt_of_lt_of_le (lt_of_block b1) (hnew.2.2 x hx)
    have FQ : Hid _ := And.intro d1 (And.intro (grown_into (grown_trans g1 hg) k1 (by omega)) (And.intro (show New u _ 25 a3 l3 c3 d2 bs from ⟨hnew.1.kept k1 (fun x hx => by have := hbs x hx; simp; omega), hnew.2.1, fun x hx => by have := hbs x hx; omega⟩) hna))
    clear C2 hg hnew hna g1 b1 b1' d1 k1 hbs c0 c1 c2' L0 x0
    simp only []
    go_wp2
    (try simp only [Exit.inBlock, Exit.then])
    refine bodyPost_ret (results_cell_row (P := Try.prog) Try.results71 _ _ p1 _ _ _ _ rfl FQ.out.1 Try.underlying25 rfl (by kernel_rfl)) rfl ?_
    rw [ES.out]
    exact ⟨a3, l3, c3, bs, rfl, FQ.out.2.1, FQ.out.2.2.1, FQ.out.2.2.2⟩
  · have ES : Hid (subT E 7 n .nil = (7, n, .nil)) := subT_none (by have := L0.out.2.2.1; omega)
    have FQ : Hid _ := And.intro (heap_alloc_new u (.cells #[.int .i64 7, .int .i64 n, .slice none 0 0] 25)) (World.grownBy_alloc u (.cells #[.int .i64 7, .int .i64 n, .slice none 0 0] 25) none)
    have hnl : ¬ n < (le : Int) := hn
    clear HE2 L0
    go_enter Try.func71, Try.ntmps71
    go_wp2
    (try simp only [Exit.inBlock, Exit.then])
    refine bodyPost_ret (results_cell_row (P := Try.prog) Try.results71 _ _ u.heap.size _ _ _ _ rfl FQ.out.1 Try.underlying25 rfl (by kernel_rfl)) rfl ?_
    rw [ES.out]
    first | exact ⟨none, 0, 0, [], rfl, FQ.out.2, New.nil _ _ _, fun _ => rfl⟩ | exact ⟨none, 0, 0, rfl, FQ.out.2, ⟨[], New.nil _ _ _⟩, fun _ => rfl⟩

set_option maxRecDepth 8000 in
set_option maxHeartbeats 4000000 in
theorem replT (E : F) (ae : Option Addr) (le ce : Nat) (HE : le = 0 ∨ (okL E = true ∧ ∀ m, Repl .nil none 0 0 m)) (m : Nat) : Repl E ae le ce m := by
  intro d k n a l c p w hm hm2 h hE hf hok
  have ga := World.grownBy_alloc w (.cells #[.int .i64 k, .int .i64 n, .slice a l c] 25) none
  have ba := heap_alloc_new w (.cells #[.int .i64 k, .int .i64 n, .slice a l c] 25)
  have gb := World.grownBy_alloc (w.alloc (.cells #[.int .i64 k, .int .i64 n, .slice a l c] 25)) (.cells #[.slice ae le ce] 23) none
  have bb := heap_alloc_new (w.alloc (.cells #[.int .i64 k, .int .i64 n, .slice a l c] 25)) (.cells #[.slice ae le ce] 23)
  have gc := World.grownBy_alloc ((w.alloc (.cells #[.int .i64 k, .int .i64 n, .slice a l c] 25)).alloc (.cells #[.slice ae le ce] 23)) (.cells #[.int .i64 0, .int .i64 0, .slice none 0 0] 25) none
  have bc := heap_alloc_new ((w.alloc (.cells #[.int .i64 k, .int .i64 n, .slice a l c] 25)).alloc (.cells #[.slice ae le ce] 23)) (.cells #[.int .i64 0, .int .i64 0, .slice none 0 0] 25)
  have ba2 := (gc.block _ (Nat.lt_of_lt_of_le (lt_of_block ba) gb.size) (by simp)).trans ((gb.block _ (lt_of_block ba) (by simp)).trans ba)
  have bb2 := (gc.block _ (lt_of_block bb) (by simp)).trans bb
  have G := grown_trans (grown_trans ga gb) gc
  have s1 : (w.alloc (.cells #[.int .i64 k, .int .i64 n, .slice a l c] 25)).heap.size = w.heap.size + 1 := by simp
  have s2 : ((w.alloc (.cells #[.int .i64 k, .int .i64 n, .slice a l c] 25)).alloc (.cells #[.slice ae le ce] 23)).heap.size = w.heap.size + 1 + 1 := by simp
  rw [s1] at bb2
  rw [s2] at bc
  obtain ⟨sk, sn, sd, hsub⟩ : ∃ sk sn sd, subT E k n d = (sk, sn, sd) := ⟨_, _, _, rfl⟩
  have HC : Hid _ := swapT E (w.heap.size + 1) m d k n a l c p _ hm hm2 (h.none G) (cloT E ae le ce _ HE _ bb2 (hE.none G)) hf hok
  rw [hsub] at HC
  have ES : Hid (subT E k n d = (sk, sn, sd)) := hsub
  have L0 : Hid (w.grownBy _ none ∧ _ = some (Obj.cells #[.int .i64 0, .int .i64 0, .slice none 0 0] 25)) := ⟨G, bc⟩
  obtain ⟨⟨x0, x1, x2⟩, -⟩ := three ba2
  clear ga ba gb bb gc bc ba2 bb2 G s1 s2 h hE hf hok HE hsub
  go_enter Try.func42, Try.ntmps42
  go_wp2_with fail
  refine Calls.mono HC.out ?_
  rintro e w2 ⟨a3, l3, c3, bs, rfl, hg, hnew, hna⟩
  obtain ⟨g1, b1⟩ := L0.out
  have b1' := (hg.block _ (lt_of_block b1) (by simp)).trans b1
  obtain ⟨⟨v0, v1, v2⟩, f0, f1, f2⟩ := three b1'
  obtain ⟨d1, k1⟩ := fill3 (.int .i64 sk) (.int .i64 sn) (.slice a3 l3 c3) b1'
  have hbs : ∀ x ∈ bs, w.heap.size + 1 + 1 < x := fun x hx => Nat.lt_of_lt_of_le (lt_of_block b1) (hnew.2.2 x hx)
  have FQ : Hid _ := And.intro d1 (And.intro (grown_into (grown_trans g1 hg) k1 (by omega)) (And.intro (show New w _ 25 a3 l3 c3 sd bs from ⟨hnew.1.kept k1 (fun x hx => by have := hbs x hx; simp; omega), hnew.2.1, fun x hx => by have := hbs x hx; omega⟩) hna))
  clear HC hg hnew hna g1 b1 b1' d1 k1 hbs x0 x1 x2 L0
  simp only []
  go_wp2
  (try simp only [Exit.inBlock, Exit.then])
  refine bodyPost_ret (results_cell_row (P := Try.prog) Try.results42 _ _ (w.heap.size + 1 + 1) _ _ _ _ rfl FQ.out.1 Try.underlying25 rfl (by kernel_rfl)) rfl ?_
  rw [ES.out]
  exact ⟨a3, l3, c3, bs, rfl, FQ.out.2.1, FQ.out.2.2.1, FQ.out.2.2.2⟩
end Go.Proofs.Ytmlganaiajhjeaa.By
