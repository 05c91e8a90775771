/-
  The document's draw of a value and its cells, by its contract. No statement is proved here.
-/
import Derived.Test.YtpmndefmibnaeaaDoorVD1
namespace Go.Proofs.YtpmndefmibnaeaaDoor.By
open Go.RowKit
set_option linter.unusedVariables false
set_option linter.unusedSimpArgs false

theorem results_cell2V {P : Program} {fn : Func} {p u : Tmp} {ty : TypeId} (h : fn.results = #[.cell p ty, .tmp u]) (tmps : Array Value) (w : World) (g : Nat) (t : TypeId) (cs : Array Value) (fr : Nat × Nat) (d : TypeDesc)
    (hp : tmps.getD p undef = .pointer (some ⟨g, 0, none⟩)) (hg : w.heap[g]? = some (.cells cs t fr))
    (hu : P.underlying ty = some d) (hd : (match d with | .struct _ | .array _ _ => true | _ => false) = true) (hi : (P.info? ty).map (·.size) = some cs.size) :
    (results fn tmps).run P w = .ok (.tuple #[.agg cs, tmps.getD u undef]) w := by
  have hp' : tmps[p]?.getD undef = .pointer (some ⟨g, 0, none⟩) := by simpa using hp
  simp [results, h, hp', asAddr, run_loadVar_row w g t ty cs fr d hg hu hd hi]
theorem wpList_appV {w : World} {ops : Array Oper} {rest : List Oper} {o : Oper} {ac : Act} {Q : Exit → Act → World → Prop} (hg : o.guard = none) (s x : Operand) (ho : o.op = .call { callee := .builtin .append, args := #[s, x], argTypes := #[29, 29] })
    (B : Nat) (v : Value) (f : V) (vs : List Value) (lo : Nat) (h : OwnV w (hideO w lo v.ownBlock) B v f vs) (p : Nat) (y : RVal) (a1 : Option Addr) (l1 c1 : Nat) (a2 : Option Addr) (l2 c2 : Nat) (c : Nat)
    (hs : ac.eval s = v) (hx : ac.eval x = .slice (some ⟨p, 0, none⟩) 1 c)
    (hp : w.heap[p]? = some (.cells #[.int .i64 y.k, .int .i64 y.n, .slice a1 l1 c1, .slice a2 l2 c2] 31 (0, 0))) (hl : l1 ≤ c1) (hr : RdVal (hideO w lo v.ownBlock) y a1 l1 a2 l2) (hm : f.len ≤ 1000000) (hB : B ≤ w.heap.size)
    (H : ∀ v' w', OwnV w' (hideO w' lo v'.ownBlock) B v' (f.app (V.cn y .nil)) (vs ++ [.int .i64 y.k, .int .i64 y.n, .slice a1 l1 c1, .slice a2 l2 c2]) → w.grownBy w' v.ownBlock → CLe (hideO w lo v.ownBlock) (hideO w' lo v'.ownBlock) → wpList Tryd.prog ops Q rest (ac.put o.dst v') w') :
    wpList Tryd.prog ops Q (o :: rest) ac w :=
  wpList_plain hg fun K hK => wp_appV s x ho B v f vs lo h p y a1 l1 c1 a2 l2 c2 c hs hx hp hl hr hm hB fun v' w' h1 h2 h3 => hK _ _ (H v' w' h1 h2 h3)

/-- While values are drawn: the cursor, the box of what is told. -/
structure DsS (w w0 : World) (g : Nat) (a : Option Addr) (n cap pr : Nat) (u : World) : Prop where
  cur : Cur w0 u g a n cap
  gr : w.grownBy u none
  hpr : u.heap[pr]? = some (.cells #[.int .i64 0, .int .i64 0, .slice none 0 0, .slice none 0 0] 31 (0, 0))
  lt : w.heap.size ≤ pr ∧ pr < g ∧ pr < w0.heap.size
theorem DsS.keep {w w0 u u' : World} {g : Nat} {a : Option Addr} {n cap pr : Nat} (h : DsS w w0 g a n cap pr u) (k : Kept w0 u u' g a n cap) : DsS w w0 g a n cap pr u' := by
  have hl := h.lt
  exact ⟨k.1, grown_into h.gr k.2 (by omega), (k.2.block pr (lt_of_block h.hpr) (by simp; omega)).trans h.hpr, hl⟩
theorem DsS.row {w w0 u u' : World} {g : Nat} {a : Option Addr} {n cap pr : Nat} {r : Option Nat} (h : DsS w w0 g a n cap pr u) (k : u.grownBy u' r) (hr : ∀ b, r = some b → g < b) : DsS w w0 g a n cap pr u' := by
  have hl := h.lt
  have h0 := h.cur.1
  refine ⟨h.cur.kept k (fun e => by have := hr g e.symm; omega) (fun b e => by have := hr b e; omega), ?_, (k.block pr (lt_of_block h.hpr) (fun e => by have := hr pr e.symm; omega)).trans h.hpr, hl⟩
  exact ⟨k.os.trans h.gr.os, k.tape.trans h.gr.tape, k.output.trans h.gr.output, Nat.le_trans h.gr.size k.size, fun i hi _ => (k.block i (Nat.lt_of_lt_of_le hi h.gr.size) (fun e => by have := hr i e.symm; omega)).trans (h.gr.block i hi (by simp))⟩
theorem DsS.none {w w0 u u' : World} {g : Nat} {a : Option Addr} {n cap pr : Nat} (h : DsS w w0 g a n cap pr u) (k : u.grownBy u' Option.none) : DsS w w0 g a n cap pr u' := h.row k (fun b e => by cases e)
theorem DsS.lo {w w0 u : World} {g : Nat} {a : Option Addr} {n cap pr : Nat} (h : DsS w w0 g a n cap pr u) : g < u.heap.size := h.cur.lo.1
/-- While the last of them is wrapped. -/
structure DxS (w w0 : World) (g : Nat) (a : Option Addr) (n cap pr p8 : Nat) (la : Option Addr) (ll : Nat) (f : V) (x : RVal) (a1 : Option Addr) (l1 c1 : Nat) (a2 : Option Addr) (l2 c2 : Nat) (u : World) : Prop where
  ds : DsS w w0 g a n cap pr u
  h8 : u.heap[p8]? = some (.cells #[.int .i64 x.k, .int .i64 x.n, .slice a1 l1 c1, .slice a2 l2 c2] 31 (0, 0))
  lt8 : g < p8
  le : l1 ≤ c1
  rx : RdVal (hideO u (g + 1) (some p8)) x a1 l1 a2 l2
  sl : SlVal (hideO u (g + 1) (some p8)) la ll f
theorem DxS.keep {w w0 u u' : World} {g : Nat} {a : Option Addr} {n cap pr p8 : Nat} {la : Option Addr} {ll : Nat} {f : V} {x : RVal} {a1 : Option Addr} {l1 c1 : Nat} {a2 : Option Addr} {l2 c2 : Nat} (h : DxS w w0 g a n cap pr p8 la ll f x a1 l1 c1 a2 l2 c2 u) (k : Kept w0 u u' g a n cap) : DxS w w0 g a n cap pr p8 la ll f x a1 l1 c1 a2 l2 c2 u' := by
  have hl := h.lt8
  have kc := hidO_grown (lo := g + 1) (r := some p8) k.2 (fun b e => .inl (by obtain rfl := Option.some.inj e; omega))
  exact ⟨h.ds.keep k, (k.2.block p8 (lt_of_block h.h8) (by simp; omega)).trans h.h8, hl, h.le, h.rx.le kc, h.sl.le kc⟩
theorem DxS.start {w w0 u : World} {g : Nat} {a : Option Addr} {n cap pr : Nat} {la : Option Addr} {ll : Nat} {f : V} {x : RVal} {a1 : Option Addr} {l1 c1 : Nat} {a2 : Option Addr} {l2 c2 : Nat} (h : DsS w w0 g a n cap pr u) (hl : l1 ≤ c1) (hx : RdVal (hideZ u (g + 1)) x a1 l1 a2 l2) (hs : SlVal (hideZ u (g + 1)) la ll f) :
    DxS w w0 g a n cap pr u.heap.size la ll f x a1 l1 c1 a2 l2 c2 (u.alloc (.cells #[.int .i64 x.k, .int .i64 x.n, .slice a1 l1 c1, .slice a2 l2 c2] 31)) := by
  have ga := World.grownBy_alloc u (.cells #[.int .i64 x.k, .int .i64 x.n, .slice a1 l1 c1, .slice a2 l2 c2] 31) Option.none
  have kc : CLe (hideZ u (g + 1)) (hideO (u.alloc (.cells #[.int .i64 x.k, .int .i64 x.n, .slice a1 l1 c1, .slice a2 l2 c2] 31)) (g + 1) (some u.heap.size)) := CLe.hidZO (Nat.le_refl _) (fun i h1 h2 => ⟨ga.block i h2 (by simp), fun e => by injection e with e; omega⟩)
  exact ⟨h.none ga, heap_alloc_new _ _, h.lo, hl, hx.le kc, hs.le kc⟩
theorem DxS.wrap {w w0 u : World} {g : Nat} {a : Option Addr} {n cap pr p8 : Nat} {la : Option Addr} {ll : Nat} {f : V} {x : RVal} {a1 : Option Addr} {l1 c1 : Nat} {a2 : Option Addr} {l2 c2 : Nat} (h : DxS w w0 g a n cap pr p8 la ll f x a1 l1 c1 a2 l2 c2 u) :
    (u.alloc (.cells #[.int .i64 x.k, .int .i64 x.n, .slice a1 l1 c1, .slice a2 l2 c2] 31)).heap[p8]? = some (.cells #[.int .i64 x.k, .int .i64 x.n, .slice a1 l1 c1, .slice a2 l2 c2] 31 (0, 0)) ∧
    DxS w w0 g a n cap pr p8 la ll f ⟨3, 0, [], V.cn x .nil⟩ Option.none 0 0 (some ⟨u.heap.size, 0, Option.none⟩) 1 1 (((((u.alloc (.cells #[.int .i64 x.k, .int .i64 x.n, .slice a1 l1 c1, .slice a2 l2 c2] 31)).setCell ⟨p8, 0, Option.none⟩ (.int .i64 3)).setCell ⟨p8, 1, Option.none⟩ (.int .i64 0)).setCell ⟨p8, 2, Option.none⟩ (.slice Option.none 0 0)).setCell ⟨p8, 3, Option.none⟩ (.slice (some ⟨u.heap.size, 0, Option.none⟩) 1 1)) := by
  have ga := World.grownBy_alloc u (.cells #[.int .i64 x.k, .int .i64 x.n, .slice a1 l1 c1, .slice a2 l2 c2] 31) Option.none
  have ba := heap_alloc_new u (.cells #[.int .i64 x.k, .int .i64 x.n, .slice a1 l1 c1, .slice a2 l2 c2] 31)
  have h8 := (ga.block _ (lt_of_block h.h8) (by simp)).trans h.h8
  have hl := h.lt8
  have hps := lt_of_block h.h8
  obtain ⟨mf, kf⟩ := fillVal (.int .i64 3) (.int .i64 0) (.slice Option.none 0 0) (.slice (some ⟨u.heap.size, 0, Option.none⟩) 1 1) h8
  have kc := (hidO_grown (lo := g + 1) (r := some p8) ga (fun b e => by cases e)).trans (hidO_grown (lo := g + 1) (r := some p8) kf (fun b e => .inr e.symm))
  have hq := (kf.block u.heap.size (by show _ < (u.heap.push _).size; simp) (by simp; omega)).trans ba
  have hh := hideO_heap (lo := g + 1) (r := some p8) (i := u.heap.size) (by omega) (by simp; omega) hq
  refine ⟨h8, (h.ds.none ga).row kf (fun b e => by obtain rfl := Option.some.inj e; exact hl), mf, hl, Nat.le_refl _, ⟨⟨⟨rfl, .inl rfl⟩, fun z hz => by simp at hz, by omega⟩, rfl, by omega, .inr ⟨_, _, rfl, ⟨a1, l1, c1, a2, l2, c2, (blkVal hh).1, h.le, h.rx.1.le kc, h.rx.2.le kc⟩, trivial⟩⟩, h.sl.le kc⟩


set_option maxRecDepth 8000 in
set_option maxHeartbeats 4000000 in
theorem drawShowT (a : Option Addr) (n cap : Nat) (zs : List Int) (w : World) (hr : Reads w a n zs) (hz : Byt zs) (hn : n ≤ 9223372036854775807) :
    Calls Tryd.prog 18 #[.slice a n cap] w fun e u => ∃ (x : RVal) (a1 : Option Addr) (l1 c1 : Nat) (a2 : Option Addr) (l2 c2 : Nat) (f : V) (ac : Option Addr) (lc cc : Nat), e = .returned (.tuple #[.agg #[.int .i64 x.k, .int .i64 x.n, .slice a1 l1 c1, .slice a2 l2 c2], .slice ac lc cc]) ∧ w.grownBy u none ∧ RdVal u x a1 l1 a2 l2 ∧ l1 ≤ c1 ∧ okX x ∧ szVal x ≤ 1000 ∧ SlVal u ac lc f ∧ lc ≤ cc ∧ f.len ≤ 3 ∧ f.size ≤ 1000 ∧ okN f := by
  have g0 := World.grownBy_alloc w (.cells #[.int .i64 0, .int .i64 0, .slice none 0 0, .slice none 0 0] 31) none
  have b0 := heap_alloc_new w (.cells #[.int .i64 0, .int .i64 0, .slice none 0 0, .slice none 0 0] 31)
  have hs0 : (w.alloc (.cells #[.int .i64 0, .int .i64 0, .slice none 0 0, .slice none 0 0] 31)).heap.size = w.heap.size + 1 := by
    show (w.heap.push _).size = _
    simp
  have hr1 := (RdB.le (show RdB w a n zs from ⟨hr, hz, hn⟩) (CLe.grown g0)).1
  have C0 : Hid _ := newT a n cap zs (w.alloc (.cells #[.int .i64 0, .int .i64 0, .slice none 0 0, .slice none 0 0] 31)) hr1 hz hn
  have HB : Hid (∀ (g : Nat) (u : World) (m : Int), Cur _ u g a n cap → 0 < m → m ≤ 9223372036854775807 → _) := fun g u m hu h1 h2 => belowT (w.alloc (.cells #[.int .i64 0, .int .i64 0, .slice none 0 0, .slice none 0 0] 31)) u g a n cap zs hr1 hz hn hu m h1 h2
  have HO : Hid (∀ (g : Nat) (u : World) (m : Int), Cur _ u g a n cap → 0 < m → m ≤ 9223372036854775807 → _) := fun g u m hu h1 h2 => onceT (w.alloc (.cells #[.int .i64 0, .int .i64 0, .slice none 0 0, .slice none 0 0] 31)) u g a n cap zs hr1 hz hn hu m h1 h2
  have HV : Hid (∀ (g : Nat) (d : Nat), d ≤ 3 → ∀ (u : World) (lo : Nat), Cur _ u g a n cap → g < lo → lo ≤ u.heap.size → _) := fun g => drawV (w.alloc (.cells #[.int .i64 0, .int .i64 0, .slice none 0 0, .slice none 0 0] 31)) g a n cap zs hr1 hz hn
  have G0 : Hid _ := And.intro g0 (And.intro b0 hs0)
  clear g0 b0 hs0 hr hr1 hz hn
  go_enter Tryd.func18, Tryd.ntmps18
  go_wp2_with fail
  refine Calls.mono C0.out ?_
  rintro e u1 ⟨g, rfl, hc, hg⟩
  have S1 : Hid (DsS w (w.alloc (.cells #[.int .i64 0, .int .i64 0, .slice none 0 0, .slice none 0 0] 31)) g a n cap w.heap.size u1) := ⟨hc, grown_trans G0.out.1 hg, (hg.block _ (lt_of_block G0.out.2.1) (by simp)).trans G0.out.2.1, ⟨Nat.le_refl _, by have := hc.1; have := G0.out.2.2; omega, by have := G0.out.2.2; omega⟩⟩
  clear C0 G0 hc hg
  generalize w.alloc (.cells #[.int .i64 0, .int .i64 0, .slice none 0 0, .slice none 0 0] 31) = w0 at *
  generalize w.heap.size = pr at *
  have C1 : Hid _ := HB.out g u1 4 S1.out.cur (by omega) (by omega)
  simp only []
  go_wp2_with fail
  refine Calls.mono C1.out ?_
  rintro e u2 ⟨m, rfl, hm0, hm4, hk⟩
  have S2 : Hid _ := S1.out.keep hk
  clear C1 S1 hk
  simp only []
  go_wp2
  go_loopw [5, 7] (fun s i wr => ∃ (j : Nat) (f : V) (vs : List Value), (j : Int) ≤ m ∧ i = .int .i64 j ∧ f.size ≤ j * (1 + dM 2) ∧ Hid (f.len = j ∧ okN f ∧ DsS w w0 g a n cap pr wr ∧ OwnV wr (hideO wr (g + 1) s.ownBlock) (g + 1) s f vs)) (fun _ i _ => 4 - (intOf i).toNat)
  case atStart => exact ⟨0, .nil, [], by omega, rfl, by simp [V.size], rfl, trivial, S2.out, ⟨World.ownsRow_nil _ _ _ _, rfl⟩⟩
  case round =>
    clear S2
    obtain ⟨j, f, vs, hj, rfl, hfs, HL⟩ := hrel
    obtain ⟨la, lk, rfl, hlk, hln⟩ := HL.out.2.2.2.slice
    have hj3 : j ≤ 3 := by omega
    have hd2 : dM 2 = 77 := rfl
    have hd3 : dM 3 = 239 := rfl
    have hlo := HL.out.2.2.1.lo
    have hrow : ∀ b, (Value.slice la f.len lk).ownBlock = some b → g < b ∧ b < wr.heap.size := fun b hb => by have := HL.out.2.2.2.own.lt b hb; omega
    by_cases hgo : (j : Int) < m
    · have CI : Hid (Calls Tryd.prog 28 #[.pointer (some ⟨g, 0, none⟩), .int .i64 2] wr _) := HV.out g 2 (by omega) wr wr.heap.size HL.out.2.2.1.cur hlo (Nat.le_refl _)
      go_wp2_with fail
      refine Calls.mono CI.out ?_
      rintro e z ⟨y, b1, m1, e1, b2, m2, e2, he, hk, hry, hle, hy, hys⟩
      subst he
      have ga := World.grownBy_alloc z (.cells #[.int .i64 y.k, .int .i64 y.n, .slice b1 m1 e1, .slice b2 m2 e2] 31) none
      have ba := heap_alloc_new z (.cells #[.int .i64 y.k, .int .i64 y.n, .slice b1 m1 e1, .slice b2 m2 e2] 31)
      have ck : CLe (hideO wr (g + 1) (Value.slice la f.len lk).ownBlock) (hideO z (g + 1) (Value.slice la f.len lk).ownBlock) := hidO_grown hk.2 (fun b e => .inl (by obtain rfl := Option.some.inj e; omega))
      have ca : CLe (hideO z (g + 1) (Value.slice la f.len lk).ownBlock) (hideO (z.alloc (.cells #[.int .i64 y.k, .int .i64 y.n, .slice b1 m1 e1, .slice b2 m2 e2] 31)) (g + 1) (Value.slice la f.len lk).ownBlock) := hidO_grown ga (fun b e => by cases e)
      have AM : Hid (f.len = j ∧ okN f ∧ DsS w w0 g a n cap pr (z.alloc (.cells #[.int .i64 y.k, .int .i64 y.n, .slice b1 m1 e1, .slice b2 m2 e2] 31)) ∧ OwnV (z.alloc (.cells #[.int .i64 y.k, .int .i64 y.n, .slice b1 m1 e1, .slice b2 m2 e2] 31)) (hideO (z.alloc (.cells #[.int .i64 y.k, .int .i64 y.n, .slice b1 m1 e1, .slice b2 m2 e2] 31)) (g + 1) (Value.slice la f.len lk).ownBlock) (g + 1) (.slice la f.len lk) f vs ∧ RdVal (hideO (z.alloc (.cells #[.int .i64 y.k, .int .i64 y.n, .slice b1 m1 e1, .slice b2 m2 e2] 31)) (g + 1) (Value.slice la f.len lk).ownBlock) y b1 m1 b2 m2 ∧ (z.alloc (.cells #[.int .i64 y.k, .int .i64 y.n, .slice b1 m1 e1, .slice b2 m2 e2] 31)).heap[z.heap.size]? = some (.cells #[.int .i64 y.k, .int .i64 y.n, .slice b1 m1 e1, .slice b2 m2 e2] 31 (0, 0)) ∧ f.len ≤ 1000000 ∧ g + 1 ≤ (z.alloc (.cells #[.int .i64 y.k, .int .i64 y.n, .slice b1 m1 e1, .slice b2 m2 e2] 31)).heap.size) :=
        ⟨HL.out.1, HL.out.2.1, (HL.out.2.2.1.keep hk).none ga, ((((HL.out.2.2.2.kept hk.2 (fun b e => by obtain rfl := Option.some.inj e; omega)).le ck).kept ga (fun b e => by cases e)).le ca), (hry.le (CLe.hidZO (by omega) (fun i h1 h2 => ⟨rfl, fun e => by have := hrow i e.symm; omega⟩))).le ca, ba, by have := HL.out.1; omega, by have := ga.size; have := hk.2.size; omega⟩
      have hrow : ∀ b, (Value.slice la f.len lk).ownBlock = some b → g < b := fun b hb => (hrow b hb).1
      clear HL hk hry CI ga ba ck ca hlo
      simp only []
      go_wp2_with (at_builtin; go_must (refine wpList_appV rfl (.tmp 20) (.tmp 23) rfl (g + 1) (.slice la f.len lk) f vs (g + 1) AM.out.2.2.2.1 z.heap.size y b1 m1 e1 b2 m2 e2 1 rfl rfl AM.out.2.2.2.2.2.1 hle AM.out.2.2.2.2.1 AM.out.2.2.2.2.2.2.1 AM.out.2.2.2.2.2.2.2 ?_); intro v9 w9 hO hg9 hcl9; obtain ⟨la9, lk9, rfl, -, -⟩ := hO.slice)
      have AQ : Hid ((f.app (V.cn y .nil)).len = j + 1 ∧ okN (f.app (V.cn y .nil)) ∧ DsS w w0 g a n cap pr w9 ∧ OwnV w9 (hideO w9 (g + 1) (Value.slice la9 (f.app (V.cn y .nil)).len lk9).ownBlock) (g + 1) (.slice la9 (f.app (V.cn y .nil)).len lk9) (f.app (V.cn y .nil)) _) :=
        ⟨by rw [V.app_len, AM.out.1]; rfl, okN_app f y AM.out.2.1 hy, AM.out.2.2.1.row hg9 hrow, hO⟩
      have hfs2 : (f.app (V.cn y .nil)).size ≤ (j + 1) * (1 + dM 2) := by
        rw [V.app_size, V.size_cn, Nat.add_mul, Nat.one_mul]
        simp only [V.size]
        omega
      clear AM hO hg9 hcl9 hfs hrow hle hln hlk hd2 hd3
      generalize f.app (V.cn y .nil) = f2 at *
      go_wp2
      go_roundw
      case rel => exact ⟨j + 1, f2, _, by omega, by go_num, hfs2, AQ⟩
      case measure => simp [intOf]; omega
    · have CI : Hid (Calls Tryd.prog 28 #[.pointer (some ⟨g, 0, none⟩), .int .i64 3] wr _) := HV.out g 3 (by omega) wr wr.heap.size HL.out.2.2.1.cur hlo (Nat.le_refl _)
      go_wp2_with fail
      refine Calls.mono CI.out ?_
      rintro e z ⟨y, b1, m1, e1, b2, m2, e2, he, hk, hry, hle, hy, hys⟩
      subst he
      have ck : CLe (hideO wr (g + 1) (Value.slice la f.len lk).ownBlock) (hideO z (g + 1) (Value.slice la f.len lk).ownBlock) := hidO_grown hk.2 (fun b e => .inl (by obtain rfl := Option.some.inj e; omega))
      have OV := (HL.out.2.2.2.kept hk.2 (fun b e => by obtain rfl := Option.some.inj e; omega)).le ck
      have FS : Hid (f.len ≤ 3 ∧ f.size ≤ 1000 ∧ okN f) := ⟨by have := HL.out.1; omega, Nat.le_trans hfs (by rw [hd2]; omega), HL.out.2.1⟩
      have AS : Hid _ := DxS.start (c2 := e2) (HL.out.2.2.1.keep hk) hle (hry.le (CLe.hidz (lo' := g + 1) (by omega) (fun i _ _ => rfl))) (OV.reads (Nat.le_refl _) (CLe.hidOZ (Nat.le_refl _)) (by have := HL.out.1; omega))
      have hy9 : szVal y ≤ 239 := by omega
      clear HL hk hry CI ck OV hlo hfs hrow hln hle hgo hj hj3 hys hm0 hm4 hd2 hd3 HV
      have C4 : Hid _ := HO.out g _ 4 AS.out.ds.cur (by omega) (by omega)
      simp only []
      go_wp2_with fail
      generalize z.alloc (.cells #[.int .i64 y.k, .int .i64 y.n, .slice b1 m1 e1, .slice b2 m2 e2] 31) = z1 at *
      generalize z.heap.size = p8 at *
      refine Calls.mono C4.out ?_
      rintro e z2 ⟨t, rfl, hk⟩
      have AX : Hid _ := AS.out.keep hk
      clear AS C4 hk HO
      simp only []
      cases t with
      | false =>
        have HY : Hid (okX y ∧ szVal y ≤ 1000) := ⟨hy, by omega⟩
        clear HB hy hy9
        obtain ⟨⟨z0, z1, z2, z3⟩, -⟩ := blkVal AX.out.h8
        obtain ⟨⟨x0, x1, x2, x3⟩, hfx⟩ := blkVal AX.out.ds.hpr
        have fx0 := hfx 0
        have fx1 := hfx 1
        have fx2 := hfx 2
        have fx3 := hfx 3
        obtain ⟨mf, kf⟩ := fillVal (.int .i64 y.k) (.int .i64 y.n) (.slice b1 m1 e1) (.slice b2 m2 e2) AX.out.ds.hpr
        have kc := (hidO_grown (lo := g + 1) (r := some p8) kf (fun b e => .inl (by obtain rfl := Option.some.inj e; have := AX.out.ds.lt; omega))).trans CLe.unhidO
        have FQ : Hid (_ ∧ w.grownBy _ none ∧ RdVal _ y b1 m1 b2 m2 ∧ m1 ≤ e1 ∧ SlVal _ la f.len f) := ⟨mf, grown_into AX.out.ds.gr kf (by have := AX.out.ds.lt; omega), AX.out.rx.le kc, AX.out.le, AX.out.sl.le kc⟩
        clear AX hfx mf kf kc
        go_wp2
        (try simp only [Exit.inBlock, Exit.then])
        refine bodyPost_ret (results_cell2V (P := Tryd.prog) Tryd.results18 _ _ pr _ _ _ _ rfl FQ.out.1 Tryd.underlying31 rfl (by kernel_rfl)) rfl ?_
        exact ⟨y, b1, m1, e1, b2, m2, e2, f, la, f.len, lk, rfl, FQ.out.2.1, FQ.out.2.2.1, FQ.out.2.2.2.1, HY.out.1, HY.out.2, FQ.out.2.2.2.2, hlk, FS.out.1, FS.out.2.1, FS.out.2.2⟩
      | true =>
        have C5 : Hid _ := HB.out g z2 10 AX.out.ds.cur (by omega) (by omega)
        go_wp2_with fail
        refine Calls.mono C5.out ?_
        rintro e z3 ⟨m3, rfl, hn0, hn9, hk⟩
        have AY : Hid _ := AX.out.keep hk
        clear AX C5 hk HB
        simp only []
        go_wp2
        go_loopw [10] (fun i wr => ∃ (j : Nat) (y : RVal) (b1 : Option Addr) (m1 e1 : Nat) (b2 : Option Addr) (m2 e2 : Nat), (j : Int) ≤ m3 ∧ i = .int .i64 j ∧ szVal y ≤ 239 + j ∧ okX y ∧ Hid (DxS w w0 g a n cap pr p8 la f.len f y b1 m1 e1 b2 m2 e2 wr)) (fun i _ => 10 - (intOf i).toNat)
        case atStart => exact ⟨0, y, b1, m1, e1, b2, m2, e2, by omega, rfl, by omega, hy, AY⟩
        case round =>
          clear AY hy hy9
          obtain ⟨j, y, b1, m1, e1, b2, m2, e2, hj, rfl, hy9, hy, AX⟩ := hrel
          by_cases hgo : (j : Int) < m3
          · obtain ⟨h8, hw⟩ := AX.out.wrap
            obtain ⟨⟨z0, z1, z2, z3⟩, -⟩ := blkVal AX.out.h8
            obtain ⟨⟨x0, x1, x2, x3⟩, hfx⟩ := blkVal h8
            have fx0 := hfx 0
            have fx1 := hfx 1
            have fx2 := hfx 2
            have fx3 := hfx 3
            have AZ : Hid _ := hw
            clear h8 hw AX hfx
            go_wp2
            go_roundw
            case rel => exact ⟨j + 1, ⟨3, 0, [], V.cn y .nil⟩, none, 0, 0, _, 1, 1, by omega, by go_num, by simp only [szVal, V.size_cn, V.size, List.length_nil] at hy9 ⊢; omega, ⟨⟨show (-9223372036854775808 : Int) ≤ 0 by decide, show (0 : Int) ≤ 9223372036854775807 by decide⟩, hy.1, hy.2, trivial⟩, AZ⟩
            case measure => simp [intOf]; omega
          · have HY : Hid (okX y ∧ szVal y ≤ 1000) := ⟨hy, by omega⟩
            clear hy hy9
            obtain ⟨⟨z0, z1, z2, z3⟩, -⟩ := blkVal AX.out.h8
            obtain ⟨⟨x0, x1, x2, x3⟩, hfx⟩ := blkVal AX.out.ds.hpr
            have fx0 := hfx 0
            have fx1 := hfx 1
            have fx2 := hfx 2
            have fx3 := hfx 3
            obtain ⟨mf, kf⟩ := fillVal (.int .i64 y.k) (.int .i64 y.n) (.slice b1 m1 e1) (.slice b2 m2 e2) AX.out.ds.hpr
            have kc := (hidO_grown (lo := g + 1) (r := some p8) kf (fun b e => .inl (by obtain rfl := Option.some.inj e; have := AX.out.ds.lt; omega))).trans CLe.unhidO
            have FQ : Hid (_ ∧ w.grownBy _ none ∧ RdVal _ y b1 m1 b2 m2 ∧ m1 ≤ e1 ∧ SlVal _ la f.len f) := ⟨mf, grown_into AX.out.ds.gr kf (by have := AX.out.ds.lt; omega), AX.out.rx.le kc, AX.out.le, AX.out.sl.le kc⟩
            clear AX hfx mf kf kc
            go_wp2
            (try simp only [Exit.inBlock, Exit.then])
            refine bodyPost_ret (results_cell2V (P := Tryd.prog) Tryd.results18 _ _ pr _ _ _ _ rfl FQ.out.1 Tryd.underlying31 rfl (by kernel_rfl)) rfl ?_
            exact ⟨y, b1, m1, e1, b2, m2, e2, f, la, f.len, lk, rfl, FQ.out.2.1, FQ.out.2.2.1, FQ.out.2.2.2.1, HY.out.1, HY.out.2, FQ.out.2.2.2.2, hlk, FS.out.1, FS.out.2.1, FS.out.2.2⟩
end Go.Proofs.YtpmndefmibnaeaaDoor.By
