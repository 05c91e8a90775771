/-
  The walk of laws.FnVals. No statement is proved here.
-/
import Derived.Test.YtpmndefmibnaeaaDoorVD2
namespace Go.Proofs.YtpmndefmibnaeaaDoor.By
open Go.RowKit
set_option linter.unusedVariables false
set_option linter.unusedSimpArgs false

theorem InVal.news {w wp : World} {b : Nat} : ∀ (f : V) (o : Nat), InVal w wp f b o → ∃ vs : List Value, vs.length = f.len * 4 ∧ (∀ j u, vs[j]? = some u → w.cell? ⟨b, o + j, none⟩ = some u) ∧ ∀ u ∈ vs, u.oneCell' = true := by
  intro f
  induction f with
  | nil => intro o _; exact ⟨[], rfl, fun j u hu => by simp at hu, fun u hu => by simp at hu⟩
  | cons k n t d r _ ih =>
    intro o h
    obtain ⟨⟨a1, l1, c1, a2, l2, c2, ⟨h0, h1, h2, h3⟩, -⟩, hr⟩ := h
    obtain ⟨vs, hl, hc, ho⟩ := ih _ hr
    refine ⟨.int .i64 k :: .int .i64 n :: .slice a1 l1 c1 :: .slice a2 l2 c2 :: vs, by simp only [List.length_cons, V.len, hl]; omega, ?_, ?_⟩
    · intro j u hu
      match j, hu with
      | 0, hu => obtain rfl := Option.some.inj hu; exact h0
      | 1, hu => obtain rfl := Option.some.inj hu; exact h1
      | 2, hu => obtain rfl := Option.some.inj hu; exact h2
      | 3, hu => obtain rfl := Option.some.inj hu; exact h3
      | j + 4, hu =>
        have := hc j u (by simpa using hu)
        rw [show o + (j + 4) = o + 4 + j by omega]; exact this
    · intro u hu
      simp only [List.mem_cons] at hu
      rcases hu with rfl | rfl | rfl | rfl | hu
      · rfl
      · rfl
      · rfl
      · rfl
      · exact ho u hu
theorem run_appAny {w : World} (ac : Option Addr) (lc cc : Nat) (f : V) (h : SlVal w ac lc f) (hm : lc ≤ 1000000) (ty : TypeId) :
    ∃ v' w', (Builtin.append_ #[29, 29] ty #[.slice none 0 0, .slice ac lc cc]).run Tryd.prog w = .ok v' w' ∧ w.grownBy w' none := by
  obtain ⟨i, hi, hz, hsz, hby⟩ := info_parts infoVV
  have hO : w.ownsRow w.heap.size 31 4 (.slice none 0 0) 0 [] := World.ownsRow_nil _ _ _ _
  have go (ad : Addr) (news : List Value) (hl : news.length = lc * 4) (hnews : ∀ j u, news[j]? = some u → w.cell? (ad.add j) = some u) (h1 : ∀ u ∈ news, u.oneCell' = true) :
      ∃ v' w', (Builtin.append_ #[29, 29] ty #[.slice none 0 0, .slice (some ad) lc cc]).run Tryd.prog w = .ok v' w' ∧ w.grownBy w' none := by
    obtain ⟨v', w', h1, -, h3, -⟩ := run_append_own (P := Tryd.prog) w w.heap.size 29 ty 31 i _ 4 64 Tryd.underlying29 hi hz hsz hby rfl (by decide) (.slice none 0 0) 0 [] hO ad lc cc news hl hnews h1 (by unfold maxLen; omega) (by omega) (Nat.le_refl _)
    exact ⟨v', w', h1, h3⟩
  rcases h.cases with ⟨rfl, rfl⟩ | ⟨b, o, rfl, hi2, h0⟩
  · cases ac with
    | none => exact ⟨_, _, run_append_none0 (P := Tryd.prog) w.heap.size 29 ty 31 i 4 Tryd.underlying29 hi (.slice none 0 0) 0 [] hO cc, World.grownBy.refl _ _⟩
    | some ad => exact go ad [] rfl (fun j u hu => by simp at hu) (fun u hu => by simp at hu)
  · obtain ⟨vs, hl, hc, ho⟩ := InVal.news f o hi2
    exact go ⟨b, o, none⟩ vs (by rw [hl, h.1]) (fun j u hu => by rw [Go.WideShapes.add_plain]; exact hc j u hu) ho
theorem wpList_appAny {w : World} {ops : Array Oper} {rest : List Oper} {o : Oper} {a : Act} {Q : Exit → Act → World → Prop} (hgd : o.guard = none) (s x : Operand)
    (ho : o.op = .call { callee := .builtin .append, args := #[s, x], argTypes := #[29, 29] }) (ac : Option Addr) (lc cc : Nat) (f : V) (hs : a.eval s = .slice none 0 0) (hx : a.eval x = .slice ac lc cc) (h : SlVal w ac lc f) (hm : lc ≤ 1000000)
    (H : ∀ v' w', w.grownBy w' none → wpList Tryd.prog ops Q rest (a.put o.dst v') w') : wpList Tryd.prog ops Q (o :: rest) a w := by
  refine wpList_plain hgd fun K hK => ?_
  obtain ⟨v', w', hrun, hg⟩ := run_appAny (w := w) ac lc cc f h hm o.type
  unfold Oper.wp execOp
  simp only [ho, resolve, invoke, builtin, Sem.run_bind, Sem.run_pure, Result.andThen_ok, List.map_toArray, List.map_cons, List.map_nil, hs, hx, hrun]
  exact hK _ _ (H v' w' hg)
theorem shown_seven : shownV .nil ⟨1, -7, [], .nil⟩ = [45, 55] := by
  show cut (intB (-7)) = _
  rw [intB_neg (by omega), decB_small (by decide)]
  rfl

set_option maxRecDepth 8000 in
set_option maxHeartbeats 4000000 in
theorem lawVals (a : Option Addr) (n cap : Nat) (zs : List Int) (w : World) (hr : Reads w a n zs) (hz : Byt zs) (hn : n ≤ 9223372036854775807) (hTab : ∀ u, Below w.heap.size w u → Lib.TabIs Tryd.prog u "internal/strconv.uint64pow10" .u64 Lib.pow10Tab) :
    Calls Tryd.prog 4 #[.slice a n cap] w fun e u => e = .returned (.bool true) ∧ w.grownBy u none := by
  have C0 : Hid _ := drawShowT a n cap zs w hr hz hn
  have HE : Hid (∀ (u : World) (cs : V) (b : Option Addr) (l c : Nat), w.grownBy u none → SlVal u b l cs → l ≤ c → cs.size ≤ 1048576 → okN cs → Env u cs b l c) := fun u cs b l c hu h1 h2 h3 h4 => ⟨h1, h2, h3, h4, fun z hz => hTab z ((below_of_grown hu).trans (hz.mono hu.size))⟩
  clear hr hz hn hTab
  go_enter Tryd.func4, Tryd.ntmps4
  go_wp2_with fail
  refine Calls.mono C0.out ?_
  rintro e u ⟨x, a1, l1, c1, a2, l2, c2, f, ac, lc, cc, he, hg, hx, hle, hok, hsz, hs, hlc, hf3, hfs, hkn⟩
  subst he
  clear C0
  have ga := World.grownBy_alloc u (.cells #[.int .i64 x.k, .int .i64 x.n, .slice a1 l1 c1, .slice a2 l2 c2] 31) none
  have ba := heap_alloc_new u (.cells #[.int .i64 x.k, .int .i64 x.n, .slice a1 l1 c1, .slice a2 l2 c2] 31)
  have hgg := grown_trans hg ga
  have hlc3 : lc ≤ 3 := by have := hs.1; omega
  have L1 : Hid (w.grownBy (u.alloc (.cells #[.int .i64 x.k, .int .i64 x.n, .slice a1 l1 c1, .slice a2 l2 c2] 31)) none ∧ SlVal (u.alloc (.cells #[.int .i64 x.k, .int .i64 x.n, .slice a1 l1 c1, .slice a2 l2 c2] 31)) ac lc f) := ⟨hgg, hs.none ga⟩
  have CI : Hid _ := implShowT f x a1 l1 c1 a2 l2 c2 ac lc cc (u.alloc (.cells #[.int .i64 x.k, .int .i64 x.n, .slice a1 l1 c1, .slice a2 l2 c2] 31)) (hx.none ga) hle (HE.out _ f ac lc cc hgg (hs.none ga) hlc (by omega) hkn) (by omega) hok
  obtain ⟨⟨y0, y1, y2, y3⟩, -⟩ := blkVal ba
  clear ga ba hgg hg hx hs hle hok hsz hf3 hfs hkn
  simp only []
  go_wp2_with fail
  generalize u.alloc (.cells #[.int .i64 x.k, .int .i64 x.n, .slice a1 l1 c1, .slice a2 l2 c2] 31) = u1 at *
  generalize u.heap.size = p3 at *
  refine Calls.mono CI.out ?_
  rintro e u2 ⟨ag, cg, he, hw, hg⟩
  have hN := shownV_len f x
  generalize shownV f x = ZS at *
  generalize ZS.length = N at *
  subst he
  have L2 : Hid (w.grownBy u2 none ∧ SlVal u2 ac lc f) := ⟨grown_trans L1.out.1 hg, L1.out.2.none hg⟩
  clear L1 CI hw hg y0 y1 y2 y3
  simp only []
  go_wp2_with (at_builtin; go_must (refine wpList_appAny rfl (.tmp 15) (.tmp 16) rfl ac lc cc f rfl rfl L2.out.2 (by omega) ?_); intro v3 u3 hg3)
  have L3 : Hid (w.grownBy u3 none) := grown_trans L2.out.1 hg3
  clear L2 hg3
  have CJ : Hid _ := implShowT .nil ⟨1, -7, [], .nil⟩ none 0 0 none 0 0 none 0 0 u3 ⟨⟨⟨rfl, .inl rfl⟩, fun z hz => by simp at hz, by omega⟩, rfl, by omega, .inl rfl⟩ (Nat.le_refl _) (HE.out u3 .nil none 0 0 L3.out ⟨rfl, by omega, .inl rfl⟩ (Nat.le_refl _) (by simp [V.size]) trivial) (by simp [szVal, V.size]) ⟨⟨show (-9223372036854775808 : Int) ≤ -7 by decide, show (-7 : Int) ≤ 9223372036854775807 by decide⟩, trivial⟩
  rw [shown_seven] at CJ
  have hlci : ((lc : Nat) : Int) < 5 := by omega
  have hNi : ((N : Nat) : Int) ≤ 30000 := by omega
  go_wp2_with fail
  refine Calls.mono CJ.out ?_
  rintro e u4 ⟨ah, ch, he, hw, hg⟩
  subst he
  have L4 : Hid (w.grownBy u4 none) := grown_trans L3.out hg
  clear L3 CJ hw hg
  simp only [List.length_cons, List.length_nil]
  go_wp2
  go_ret
  exact ⟨rfl, L4.out⟩
end Go.Proofs.YtpmndefmibnaeaaDoor.By
