/-
  Two drawn types and drawn binds, by their contract. No statement is proved here.
-/
import Derived.Test.YtmlganaiajhjeaaUFmAlso
namespace Go.Proofs.Ytmlganaiajhjeaa.By
open Go.RowKit
set_option linter.unusedVariables false
set_option linter.unusedSimpArgs false

/-- A drawn type. -/
def DrV (w0 v : World) (g : Nat) (a : Option Addr) (n cap : Nat) (e : Ending) (u : World) : Prop :=
  ∃ t : Tr, e = .returned (.agg #[.int .i64 t.k, .int .i64 t.m, .slice t.a t.l t.c]) ∧ Kept w0 v u g a n cap ∧ New v u 25 t.a t.l t.c t.f t.bs ∧ okT t.k t.m t.f = true ∧ (∀ x ∈ vT t.k t.m t.f, V5 x)
theorem l3tyV (w0 : World) (g : Nat) (a : Option Addr) (n cap : Nat) (zs : List Int) (hr : Reads w0 a n zs) (hz : Byt zs) (hn : n ≤ 9223372036854775807) (v : World) (y : Int) (h0 : 0 ≤ y) (h1 : y ≤ 3) (hc : Cur w0 v g a n cap) :
    Calls Try.prog 51 #[.pointer (some ⟨g, 0, none⟩), .int .i64 y, .int .i64 5, .int .i64 2] v fun e u => DrV w0 v g a n cap e u := by
  obtain ⟨dp, rfl⟩ : ∃ dp : Nat, y = (dp : Int) := ⟨y.toNat, by omega⟩
  refine Calls.mono (l3tyG w0 g a n cap zs hr hz hn 5 2 (by omega) (by omega) (by omega) (by omega) dp v (by omega) hc) ?_
  rintro e u ⟨k, m, f, a', l', c', bs, he, hk, hnw, -, hsz, hg⟩
  have hp2 : 2 ^ (dp + 1) ≤ 16 := by
    have : dp = 0 ∨ dp = 1 ∨ dp = 2 ∨ dp = 3 := by omega
    rcases this with rfl | rfl | rfl | rfl <;> decide
  have h2 := hg.2.1
  rw [okF_iff, Bool.and_eq_true, decide_eq_true_eq] at h2
  refine ⟨⟨k, m, a', l', c', f, bs⟩, he, hk, hnw, ?_, hg.2.2⟩
  simp only [okT, Bool.and_eq_true, decide_eq_true_eq]
  refine ⟨⟨hg.1, ?_⟩, by omega⟩
  rw [okF_iff, Bool.and_eq_true, decide_eq_true_eq]
  exact ⟨h2.1, by omega⟩

/-- The trees of a list. -/
def trF : List Tr → F
  | [] => .nil
  | t :: r => .cons t.k t.m t.f (trF r)
/-- A tree of our own behind lo. -/
structure TrN (u : World) (lo : Nat) (t : Tr) : Prop where
  own : SlO u 25 t.a t.l t.c t.f t.bs
  gt : ∀ y ∈ t.bs, lo < y
  ok : okT t.k t.m t.f = true
theorem okL_trF : ∀ {ts : List Tr}, (∀ t ∈ ts, okT t.k t.m t.f = true) → okL (trF ts) = true
  | [], _ => rfl
  | t :: r, h => by simp only [trF, okL, Bool.and_eq_true]; exact ⟨h t (by simp), okL_trF (fun x hx => h x (List.mem_cons_of_mem _ hx))⟩

/-- What stands while what is put is drawn. -/
structure RS (w0 wb : World) (g : Nat) (a : Option Addr) (n cap : Nat) (q1 q2 q7 q8 : Nat) (s t : Tr) (ts : List Tr) (oi oe : Option Nat) (u : World) : Prop where
  du : DuS w0 wb g a n cap q1 q2 q7 q8 s t u
  trs : ∀ x ∈ ts, TrN u q8 x
  ints : ∀ qi, oi = some qi → g < qi ∧ Iota u (some ⟨qi, 0, none⟩) 3
  lst : ∀ qe, oe = some qe → SlF u (some ⟨qe, 0, none⟩) 3 (trF ts)
theorem RS.quiet {w0 wb u u' : World} {g n cap q1 q2 q7 q8 : Nat} {a : Option Addr} {s t : Tr} {ts : List Tr} {oi oe : Option Nat} (h : RS w0 wb g a n cap q1 q2 q7 q8 s t ts oi oe u) (hg : u.grownBy u' Option.none) : RS w0 wb g a n cap q1 q2 q7 q8 s t ts oi oe u' :=
  ⟨h.du.quiet hg, fun x hx => ⟨(h.trs x hx).own.old hg, (h.trs x hx).gt, (h.trs x hx).ok⟩, fun qi e => ⟨(h.ints qi e).1, (h.ints qi e).2.none hg⟩, fun qe e => (h.lst qe e).none hg⟩
theorem RS.addI {w0 wb u : World} {g n cap q1 q2 q7 q8 : Nat} {a : Option Addr} {s t : Tr} {ts : List Tr} {oi oe : Option Nat} (h : RS w0 wb g a n cap q1 q2 q7 q8 s t ts oi oe u) (hq : g < q8) : RS w0 wb g a n cap q1 q2 q7 q8 s t ts (some u.heap.size) oe (u.alloc (.cells #[.int .i64 0, .int .i64 1, .int .i64 2] 3)) := by
  have ga := World.grownBy_alloc u (.cells #[.int .i64 0, .int .i64 1, .int .i64 2] 3) none
  have h' := h.quiet ga
  have b0 := heap_alloc_new u (.cells #[.int .i64 0, .int .i64 1, .int .i64 2] 3)
  refine ⟨h'.du, h'.trs, fun qi e => ?_, h'.lst⟩
  injection e with e
  subst e
  refine ⟨by have := lt_of_block h.du.boxB; omega, .inr ⟨_, _, rfl, fun i hi => ?_⟩⟩
  rw [Nat.zero_add, cell_of_row _ _ i _ _ (0, 0) b0]
  have : i = 0 ∨ i = 1 ∨ i = 2 := by omega
  rcases this with rfl | rfl | rfl <;> rfl
theorem RS.addT {w0 wb u u' : World} {g n cap q1 q2 q7 q8 : Nat} {a : Option Addr} {s t : Tr} {ts : List Tr} {oi : Option Nat} (h : RS w0 wb g a n cap q1 q2 q7 q8 s t ts oi none u) (x : Tr) (hk : Kept w0 u u' g a n cap) (hn : New u u' 25 x.a x.l x.c x.f x.bs) (ho : okT x.k x.m x.f = true) (hq : q1 < g ∧ q2 < g ∧ g < wb.heap.size ∧ wb.heap.size ≤ q7 ∧ q7 < q8) : RS w0 wb g a n cap q1 q2 q7 q8 s t (ts ++ [x]) oi none u' := by
  have hl := lt_of_block h.du.boxB
  refine ⟨h.du.cur hk hq, fun y hy => ?_, fun qi e => ?_, fun qe e => by cases e⟩
  · rcases List.mem_append.1 hy with hy | hy
    · have z := h.trs y hy
      exact ⟨z.own.kept hk.2 (fun b hb => by have := z.gt b hb; simp; omega), z.gt, z.ok⟩
    · simp at hy
      subst hy
      exact ⟨hn.1, fun b hb => by have := hn.2.2 b hb; omega, ho⟩
  · obtain ⟨z1, z2⟩ := h.ints qi e
    refine ⟨z1, ?_⟩
    rcases z2 with z2 | ⟨b, o, e2, z2⟩
    · omega
    · injection e2 with e2
      injection e2 with e3 e4
      subst e3 e4
      exact .inr ⟨_, _, rfl, fun i hi => hk.2.cell (z2 i hi) (by simp; omega)⟩
theorem RS.addE {w0 wb u : World} {g n cap q1 q2 q7 q8 : Nat} {a : Option Addr} {s t x y z : Tr} {oi : Option Nat} (h : RS w0 wb g a n cap q1 q2 q7 q8 s t [x, y, z] oi none u) : RS w0 wb g a n cap q1 q2 q7 q8 s t [x, y, z] oi (some u.heap.size) (u.alloc (.cells #[.int .i64 x.k, .int .i64 x.m, .slice x.a x.l x.c, .int .i64 y.k, .int .i64 y.m, .slice y.a y.l y.c, .int .i64 z.k, .int .i64 z.m, .slice z.a z.l z.c] 25)) := by
  have ga := World.grownBy_alloc u (.cells #[.int .i64 x.k, .int .i64 x.m, .slice x.a x.l x.c, .int .i64 y.k, .int .i64 y.m, .slice y.a y.l y.c, .int .i64 z.k, .int .i64 z.m, .slice z.a z.l z.c] 25) none
  have h' := h.quiet ga
  have b0 := heap_alloc_new u (.cells #[.int .i64 x.k, .int .i64 x.m, .slice x.a x.l x.c, .int .i64 y.k, .int .i64 y.m, .slice y.a y.l y.c, .int .i64 z.k, .int .i64 z.m, .slice z.a z.l z.c] 25)
  have hx := (h'.trs x (by simp)).own.reads
  have hy := (h'.trs y (by simp)).own.reads
  have hz := (h'.trs z (by simp)).own.reads
  refine ⟨h'.du, h'.trs, h'.ints, fun qe e => ?_⟩
  injection e with e
  subst e
  refine ⟨rfl, by omega, .inr ⟨_, _, rfl, ?_⟩⟩
  generalize u.alloc (.cells #[.int .i64 x.k, .int .i64 x.m, .slice x.a x.l x.c, .int .i64 y.k, .int .i64 y.m, .slice y.a y.l y.c, .int .i64 z.k, .int .i64 z.m, .slice z.a z.l z.c] 25) = v at *
  have hc : ∀ j, v.cell? ⟨u.heap.size, j, none⟩ = #[Value.int .i64 x.k, .int .i64 x.m, .slice x.a x.l x.c, .int .i64 y.k, .int .i64 y.m, .slice y.a y.l y.c, .int .i64 z.k, .int .i64 z.m, .slice z.a z.l z.c][j]? := fun j => cell_of_row _ _ j _ _ (0, 0) b0
  exact ⟨⟨x.a, x.l, x.c, hc 0, hc 1, hc 2, hx⟩, ⟨y.a, y.l, y.c, hc 3, hc 4, hc 5, hy⟩, ⟨z.a, z.l, z.c, hc 6, hc 7, hc 8, hz⟩, trivial⟩











set_option maxRecDepth 8000 in
set_option maxHeartbeats 8000000 in
theorem drawUnifyT (a : Option Addr) (n cap : Nat) (zs : List Int) (w : World) (hr : Reads w a n zs) (hz : Byt zs) (hn : n ≤ 9223372036854775807) :
    Calls Try.prog 16 #[.slice a n cap] w fun e u => DuA w e u := by
  have g0 := World.grownBy_alloc w (.cells #[.int .i64 0, .int .i64 0, .slice none 0 0] 25) none
  have g1 := grown_trans g0 (World.grownBy_alloc (w.alloc (.cells #[.int .i64 0, .int .i64 0, .slice none 0 0] 25)) (.cells #[.int .i64 0, .int .i64 0, .slice none 0 0] 25) none)
  have C0 : Hid _ := newT a n cap zs _ (hr.none g1) hz hn
  have L0 : Hid (w.grownBy ((w.alloc (.cells #[.int .i64 0, .int .i64 0, .slice none 0 0] 25)).alloc (.cells #[.int .i64 0, .int .i64 0, .slice none 0 0] 25)) none ∧ ((w.alloc (.cells #[.int .i64 0, .int .i64 0, .slice none 0 0] 25)).alloc (.cells #[.int .i64 0, .int .i64 0, .slice none 0 0] 25)).heap[w.heap.size]? = some (Obj.cells #[.int .i64 0, .int .i64 0, .slice none 0 0] 25) ∧ ((w.alloc (.cells #[.int .i64 0, .int .i64 0, .slice none 0 0] 25)).alloc (.cells #[.int .i64 0, .int .i64 0, .slice none 0 0] 25)).heap[w.heap.size + 1]? = some (Obj.cells #[.int .i64 0, .int .i64 0, .slice none 0 0] 25) ∧ Reads ((w.alloc (.cells #[.int .i64 0, .int .i64 0, .slice none 0 0] 25)).alloc (.cells #[.int .i64 0, .int .i64 0, .slice none 0 0] 25)) a n zs) := ⟨g1, (alloc2_blocks w _ _).1, (alloc2_blocks w _ _).2.1, hr.none g1⟩
  clear g0 g1 hr
  go_enter Try.func16, Try.ntmps16
  go_wp2_with fail
  generalize (w.alloc (.cells #[.int .i64 0, .int .i64 0, .slice none 0 0] 25)).alloc (.cells #[.int .i64 0, .int .i64 0, .slice none 0 0] 25) = w0 at *
  refine Calls.mono C0.out ?_
  rintro e v1 ⟨g, he, hc, hg⟩
  subst he
  have CB : Hid (∀ (v : World) (m : Int), Cur w0 v g a n cap → 0 < m → m ≤ 100 → Calls Try.prog 39 #[.pointer (some ⟨g, 0, none⟩), .int .i64 m] v fun e w' => ∃ x, e = .returned (.int .i64 x) ∧ 0 ≤ x ∧ x < m ∧ Kept w0 v w' g a n cap) := fun v m hv h1 h2 => belowT w0 v g a n cap zs L0.out.2.2.2 hz hn hv m h1 (by omega)
  have CO : Hid (∀ (v : World) (m : Int), Cur w0 v g a n cap → 0 < m → m ≤ 100 → Calls Try.prog 52 #[.pointer (some ⟨g, 0, none⟩), .int .i64 m] v fun e w' => ∃ x : Bool, e = .returned (.bool x) ∧ Kept w0 v w' g a n cap) := fun v m hv h1 h2 => onceT w0 v g a n cap zs L0.out.2.2.2 hz hn hv m h1 (by omega)
  have CA : Hid (∀ (v : World), Cur w0 v g a n cap → Calls Try.prog 38 #[.pointer (some ⟨g, 0, none⟩)] v fun e u => DrA w0 v g a n cap e u) := fun v hv => l3anyT w0 g a n cap zs L0.out.2.2.2 hz hn v hv
  have CT : Hid (∀ (v : World) (y : Int), 0 ≤ y → y ≤ 3 → Cur w0 v g a n cap → Calls Try.prog 51 #[.pointer (some ⟨g, 0, none⟩), .int .i64 y, .int .i64 5, .int .i64 2] v fun e u => DrV w0 v g a n cap e u) := fun v y h0 h1 hv => l3tyV w0 g a n cap zs L0.out.2.2.2 hz hn v y h0 h1 hv
  have C1 : Hid _ := l4bindsT w0 g a n cap zs L0.out.2.2.2 hz hn v1 hc
  have C2 : Hid (∀ (L : B) (av : Option Addr) (cv : Nat) (bs : List Nat) (v : World), Kept w0 v1 v g a n cap → NewB v1 v 25 44 av L.len cv L bs → (cv = 0 → av = none) → L.len ≤ 1000 → Calls Try.prog 49 #[.pointer (some ⟨g, 0, none⟩), .slice av L.len cv] v fun e u => BtA w0 v1 g a n cap L e u) := fun L av cv bs v h1 h2 h3 h4 => l4bentT w0 g a n cap zs L0.out.2.2.2 hz hn v1 hc.2.1.size (by obtain ⟨_, _, i, x, hb, _⟩ := hc; exact lt_of_block hb) L av cv bs v h1 h2 h3 h4
  have hgv : g < v1.heap.size := by obtain ⟨_, _, i, x, hb, _⟩ := hc; exact lt_of_block hb
  have hq := lt_of_block L0.out.2.1
  have hq' := lt_of_block L0.out.2.2.1
  have hc1 := hc.1
  have hs0 := hc.2.1.size
  have L1 : Hid (v1.heap[w.heap.size]? = some (Obj.cells #[.int .i64 0, .int .i64 0, .slice none 0 0] 25) ∧ v1.heap[w.heap.size + 1]? = some (Obj.cells #[.int .i64 0, .int .i64 0, .slice none 0 0] 25) ∧ w.grownBy v1 none) := ⟨(hg.block _ hq (by simp)).trans L0.out.2.1, (hg.block _ hq' (by simp)).trans L0.out.2.2.1, grown_trans L0.out.1 hg⟩
  clear hc hg C0 L0 hz hn
  simp only []
  go_wp2_with fail
  refine Calls.mono C1.out ?_
  rintro e v2 ⟨L, av, cv, bsL, he, hkL, hNL, hnaL, hwL, haL⟩
  subst he
  have C3 : Hid _ := C2.out L av cv bsL v2 hkL hNL hnaL (by have := V5_len hwL haL; omega)
  have HL : Hid (wfB L ∧ allB V5 L) := ⟨hwL, haL⟩
  clear hkL hNL hnaL hwL haL C1 C2
  simp only []
  go_wp2_with fail
  refine Calls.mono C3.out ?_
  rintro e vb ⟨f, avb, cvb, he, hkb, hlb, hcase⟩
  subst he
  have hsb := hkb.2.size
  have LR : Hid (Kept w0 vb vb g a n cap ∧ vb.heap[w.heap.size]? = some (Obj.cells #[.int .i64 0, .int .i64 0, .slice none 0 0] 25) ∧ vb.heap[w.heap.size + 1]? = some (Obj.cells #[.int .i64 0, .int .i64 0, .slice none 0 0] 25)) := ⟨⟨hkb.1, World.grownBy.refl _ _⟩, (hkb.2.block _ (lt_of_block L1.out.1) (by simp; omega)).trans L1.out.1, (hkb.2.block _ (lt_of_block L1.out.2.1) (by simp; omega)).trans L1.out.2.1⟩
  have HL2 : Hid (SlBD (hideB vb v1.heap.size) 25 44 avb f.len f ∧ w.grownBy vb none ∧ (f = L ∨ ∃ v k m d, f = L.app (.cons v k m d .nil)) ∧ wfB L ∧ allB V5 L) := ⟨hlb, grown_into L1.out.2.2 hkb.2 (by omega), hcase, HL.out⟩
  clear hkb hlb hcase L1 HL C3
  simp only []
  go_wp2_with fail
  refine Calls.mono (CB.out vb 3 LR.out.1.1 (by omega) (by omega)) ?_
  rintro e u1 ⟨x, he, hx0, hx1, hk1⟩
  subst he
  have w1 : IntKind.i64.wrap (1 + x) = 1 + x := IntWalk.i64_in _ (by omega)
  have K1 : Hid (Kept w0 vb u1 g a n cap) := hk1
  clear hk1
  simp only []
  go_wp2_with fail
  refine Calls.mono (CT.out u1 (1 + x) (by omega) (by omega) K1.out.1) ?_
  rintro e u2 ⟨s, he, hk2, hn2, hos, hvs⟩
  subst he
  have ga := World.grownBy_alloc u2 (.cells #[.int .i64 s.k, .int .i64 s.m, .slice s.a s.l s.c] 25) none
  have hs2 := (K1.out.trans hk2).2.size
  have hs1 := K1.out.2.size
  have LR2 : Hid (Kept w0 vb (u2.alloc (.cells #[.int .i64 s.k, .int .i64 s.m, .slice s.a s.l s.c] 25)) g a n cap ∧ (u2.alloc (.cells #[.int .i64 s.k, .int .i64 s.m, .slice s.a s.l s.c] 25)).heap[u2.heap.size]? = some (Obj.cells #[.int .i64 s.k, .int .i64 s.m, .slice s.a s.l s.c] 25) ∧ SlO (u2.alloc (.cells #[.int .i64 s.k, .int .i64 s.m, .slice s.a s.l s.c] 25)) 25 s.a s.l s.c s.f s.bs ∧ (∀ y ∈ s.bs, vb.heap.size ≤ y ∧ y < u2.heap.size)) := ⟨(K1.out.trans hk2).none ga, heap_alloc_new u2 _, hn2.1.old ga, fun y hy => ⟨by have := hn2.2.2 y hy; omega, hn2.1.lt y hy⟩⟩
  have HLb : Hid (SlBD (hideB vb v1.heap.size) 25 44 avb f.len f ∧ w.grownBy vb none ∧ (∀ x ∈ vT s.k s.m s.f, V5 x) ∧ wfB L ∧ allB V5 L ∧ (f = L ∨ ∃ v k m d, f = L.app (.cons v k m d .nil)) ∧ okT s.k s.m s.f = true) := ⟨HL2.out.1, HL2.out.2.1, hvs, HL2.out.2.2.2.1, HL2.out.2.2.2.2, HL2.out.2.2.1, hos⟩
  clear ga hk2 hn2 K1 hos hvs HL2 w1
  simp only []
  go_wp2_with fail
  generalize u2.alloc (.cells #[.int .i64 s.k, .int .i64 s.m, .slice s.a s.l s.c] 25) = u3 at *
  generalize u2.heap.size = q7 at *
  refine Calls.mono (CB.out u3 3 LR2.out.1.1 (by omega) (by omega)) ?_
  rintro e u4 ⟨x', he, hx0', hx1', hk4⟩
  subst he
  have w2 : IntKind.i64.wrap (1 + x') = 1 + x' := IntWalk.i64_in _ (by omega)
  have K4 : Hid (Kept w0 u3 u4 g a n cap) := hk4
  clear hk4
  simp only []
  go_wp2_with fail
  refine Calls.mono (CT.out u4 (1 + x') (by omega) (by omega) K4.out.1) ?_
  rintro e u5 ⟨t, he, hk5, hn5, hot, hvt⟩
  subst he
  have ga := World.grownBy_alloc u5 (.cells #[.int .i64 t.k, .int .i64 t.m, .slice t.a t.l t.c] 25) none
  have hk := K4.out.trans hk5
  have hl7 := lt_of_block LR2.out.2.1
  have hs3 := LR2.out.1.2.size
  have hs4 := K4.out.2.size
  have hs5 := hk.2.size
  have AL : Hid (DuS w0 vb g a n cap w.heap.size (w.heap.size + 1) q7 u5.heap.size s t (u5.alloc (.cells #[.int .i64 t.k, .int .i64 t.m, .slice t.a t.l t.c] 25))) := by
    have kk := LR2.out.1.trans hk
    have r1 := (kk.2.block _ (lt_of_block LR.out.2.1) (by simp; omega)).trans LR.out.2.1
    have r2 := (kk.2.block _ (lt_of_block LR.out.2.2) (by simp; omega)).trans LR.out.2.2
    have bA := (hk.2.block _ hl7 (by simp; omega)).trans LR2.out.2.1
    exact ⟨kk.none ga, (ga.block _ (lt_of_block r1) (by simp)).trans r1, (ga.block _ (lt_of_block r2) (by simp)).trans r2, (ga.block _ (lt_of_block bA) (by simp)).trans bA, heap_alloc_new u5 _, (LR2.out.2.2.1.kept hk.2 (fun y hy => by have := LR2.out.2.2.2 y hy; simp; omega)).old ga, fun y hy => by have := LR2.out.2.2.2 y hy; omega, hn5.1.old ga, fun y hy => by have := hn5.2.2 y hy; have := hn5.1.lt y hy; omega⟩
  have PQ : Hid (w.heap.size + 1 < g ∧ g < v1.heap.size ∧ v1.heap.size ≤ vb.heap.size ∧ w0.heap.size ≤ v1.heap.size ∧ vb.heap.size ≤ q7 ∧ q7 < u5.heap.size) := ⟨by omega, hgv, hsb, hs0, hs2, by omega⟩
  clear ga hk5 hn5 K4 hot hvt w2 hk hl7 hs3 hs4 hs5 LR LR2 hs2 hs1 hsb hs0 hc1 hgv hq hq' hx0 hx1 hx0' hx1'
  simp only []
  go_wp2_with fail
  generalize u5.alloc (.cells #[.int .i64 t.k, .int .i64 t.m, .slice t.a t.l t.c] 25) = u6 at *
  generalize u5.heap.size = q8 at *
  have HW : Hid (w.heap.size = w.heap.size) := rfl
  generalize eq1 : w.heap.size = q1 at *
  refine Calls.mono (CO.out u6 2 AL.out.kept.1 (by omega) (by omega)) ?_
  rintro e u7 ⟨bb, he, hk⟩
  subst he
  have AN := AL.out.cur hk (by have := PQ.out; omega)
  clear AL hk
  have AL : Hid (DuS w0 vb g a n cap q1 (q1 + 1) q7 q8 s t u7) := AN
  clear AN
  simp only []
  go_upto_if 26 with fail
  go_cut [27] (fun _ wx => ∃ T : Tr, Hid (DuS w0 vb g a n cap q1 (q1 + 1) q7 q8 s T wx))
  case first =>
    cases bb with
    | false =>
      go_wp2_with fail
      go_meet
      exact ⟨t, AL⟩
    | true =>
      go_wp2_with fail
      have AD : Hid (RS w0 vb g a n cap q1 (q1 + 1) q7 q8 s t [] none none u7.drew) := ⟨AL.out.quiet (grown_drew (World.grownBy.refl _ Option.none)), (fun x hx => by simp at hx), (fun qi e => by cases e), (fun qe e => by cases e)⟩
      clear AL
      have AL := AD
      clear AD
      refine wp_region_held_drew (S := (fun u => Tri q7 0 (.int .i64 s.k) (.int .i64 s.m) (.slice s.a s.l s.c) u)) (by kernel_rfl) (three AL.out.du.boxA).1 (fun hH => ?_)
      generalize u7.drew = x0 at *
      simp only [List.size_toArray, List.length_cons, List.length_nil, Nat.reduceAdd, Array.replicate, List.replicate]
      refine wpAnyH_take (i := 0) (v := ?_) rfl (by kernel_rfl) (by kernel_rfl) (by kernel_rfl) (fun _ _ _ h => h) (Or.inl ⟨by rfl, ?_⟩) hH ?_
      rotate_left
      · (intro v hS; obtain ⟨s0, s1, s2⟩ := hS; go_simp; try with_reducible rfl)
      simp only [Act.put, List.setIfInBounds_toArray, List.set_cons_zero, List.set_cons_succ, List.getElem_toArray, List.getElem_cons_succ, List.getElem_cons_zero]
      refine wpAnyH_take (i := 2) (v := ?_) rfl (by kernel_rfl) (by kernel_rfl) (by kernel_rfl) (fun _ _ _ h => h) (Or.inl ⟨by rfl, ?_⟩) hH ?_
      rotate_left
      · (intro v hS; obtain ⟨s0, s1, s2⟩ := hS; go_simp; try with_reducible rfl)
      simp only [Act.put, List.setIfInBounds_toArray, List.set_cons_zero, List.set_cons_succ, List.getElem_toArray, List.getElem_cons_succ, List.getElem_cons_zero]
      refine wpAnyH_take (i := 4) (v := ?_) rfl (by kernel_rfl) (by kernel_rfl) (by kernel_rfl) (fun _ _ _ h => h) (Or.inl ⟨by rfl, ?_⟩) hH ?_
      rotate_left
      · (intro v hS; obtain ⟨s0, s1, s2⟩ := hS; go_simp; try with_reducible rfl)
      simp only [Act.put, List.setIfInBounds_toArray, List.set_cons_zero, List.set_cons_succ, List.getElem_toArray, List.getElem_cons_succ, List.getElem_cons_zero]
      refine wpAnyH_take (i := 6) (v := ?_) rfl (by kernel_rfl) (by kernel_rfl) (by kernel_rfl) (fun _ _ _ h => h) (Or.inl ⟨by rfl, ?_⟩) hH ?_
      rotate_left
      · (intro v hS; obtain ⟨s0, s1, s2⟩ := hS; go_simp; try with_reducible rfl)
      simp only [Act.put, List.setIfInBounds_toArray, List.set_cons_zero, List.set_cons_succ, List.getElem_toArray, List.getElem_cons_succ, List.getElem_cons_zero]
      refine wpAnyH_ready (rs := [1, 3]) (by kernel_rfl) (by simp) ?_
      refine AllReadyH.cons rfl (fun K hK => ?_) ?_
      · go_simp
        have AN := AL.out.addI (by have := PQ.out; omega)
        refine hK.out _ _ (three AN.du.boxA).1 (fun hH2 => ?_)
        clear AL
        have AL : Hid _ := AN
        clear AN
        clear hK K hH
        have hH := hH2
        clear hH2
        simp only [Act.put, List.setIfInBounds_toArray, List.set_cons_zero, List.set_cons_succ, List.getElem_toArray, List.getElem_cons_succ, List.getElem_cons_zero]
        generalize x0.alloc (.cells #[.int .i64 0, .int .i64 1, .int .i64 2] 3) = x1 at *
        generalize x0.heap.size = qi at *
        refine wpAnyH_ready (rs := [3]) (by kernel_rfl) (by simp) ?_
        refine AllReadyH.cons rfl (fun K hK => ?_) AllReadyH.nil
        go_simp
        refine Calls.mono (CT.out x1 1 (by omega) (by omega) AL.out.du.kept.1) ?_
        rintro e x2 ⟨t1, he, hk, hn, ho, hv⟩
        subst he
        have AN := AL.out.addT t1 hk hn ho (by have := PQ.out; omega)
        simp only [List.nil_append, List.cons_append] at AN
        refine hK.out _ _ (three AN.du.boxA).1 (fun hH2 => ?_)
        clear AL hk hn ho hv
        have AL : Hid _ := AN
        clear AN
        clear hK K hH
        have hH := hH2
        clear hH2
        simp only [Act.put, List.setIfInBounds_toArray, List.set_cons_zero, List.set_cons_succ, List.getElem_toArray, List.getElem_cons_succ, List.getElem_cons_zero]
        refine wpAnyH_ready (rs := [5]) (by kernel_rfl) (by simp) ?_
        refine AllReadyH.cons rfl (fun K hK => ?_) AllReadyH.nil
        go_simp
        refine Calls.mono (CT.out x2 1 (by omega) (by omega) AL.out.du.kept.1) ?_
        rintro e x3 ⟨t2, he, hk, hn, ho, hv⟩
        subst he
        have AN := AL.out.addT t2 hk hn ho (by have := PQ.out; omega)
        simp only [List.nil_append, List.cons_append] at AN
        refine hK.out _ _ (three AN.du.boxA).1 (fun hH2 => ?_)
        clear AL hk hn ho hv
        have AL : Hid _ := AN
        clear AN
        clear hK K hH
        have hH := hH2
        clear hH2
        simp only [Act.put, List.setIfInBounds_toArray, List.set_cons_zero, List.set_cons_succ, List.getElem_toArray, List.getElem_cons_succ, List.getElem_cons_zero]
        refine wpAnyH_ready (rs := [7]) (by kernel_rfl) (by simp) ?_
        refine AllReadyH.cons rfl (fun K hK => ?_) AllReadyH.nil
        go_simp
        refine Calls.mono (CT.out x3 0 (by omega) (by omega) AL.out.du.kept.1) ?_
        rintro e x4 ⟨t3, he, hk, hn, ho, hv⟩
        subst he
        have AN := AL.out.addT t3 hk hn ho (by have := PQ.out; omega)
        simp only [List.nil_append, List.cons_append] at AN
        refine hK.out _ _ (three AN.du.boxA).1 (fun hH2 => ?_)
        clear AL hk hn ho hv
        have AL : Hid _ := AN
        clear AN
        clear hK K hH
        have hH := hH2
        clear hH2
        simp only [Act.put, List.setIfInBounds_toArray, List.set_cons_zero, List.set_cons_succ, List.getElem_toArray, List.getElem_cons_succ, List.getElem_cons_zero]
        refine wpAnyH_ready (rs := [8]) (by kernel_rfl) (by simp) ?_
        refine AllReadyH.cons rfl (fun K hK => ?_) AllReadyH.nil
        go_simp
        have AN := AL.out.addE
        refine hK.out _ _ (three AN.du.boxA).1 (fun hH2 => ?_)
        clear AL
        have AL : Hid _ := AN
        clear AN
        clear hK K hH
        have hH := hH2
        clear hH2
        simp only [Act.put, List.setIfInBounds_toArray, List.set_cons_zero, List.set_cons_succ, List.getElem_toArray, List.getElem_cons_succ, List.getElem_cons_zero]
        generalize x4.alloc (.cells #[.int .i64 t1.k, .int .i64 t1.m, .slice t1.a t1.l t1.c, .int .i64 t2.k, .int .i64 t2.m, .slice t2.a t2.l t2.c, .int .i64 t3.k, .int .i64 t3.m, .slice t3.a t3.l t3.c] 25) = x5 at *
        generalize x4.heap.size = qe at *
        have C9 : Hid _ := putT (trF [t1, t2, t3]) (some ⟨qe, 0, none⟩) (some ⟨qi, 0, none⟩) 3 3 3 (okL_trF (fun y hy => (AL.out.trs y hy).ok)) (s.f.size + 1) s.f s.k s.m s.a s.l s.c 9 s.bs x5 (Nat.lt_succ_self _) (by have := HLb.out.2.2.2.2.2.2; simp only [okT, Bool.and_eq_true, decide_eq_true_eq] at this; omega) AL.out.du.ownA (AL.out.lst qe rfl) (AL.out.ints qi rfl).2 (by have := HLb.out.2.2.2.2.2.2; simp only [okT, Bool.and_eq_true, decide_eq_true_eq] at this; rw [← AL.out.du.ownA.1]; exact this.1.1) (by have := HLb.out.2.2.2.2.2.2; simp only [okT, Bool.and_eq_true, decide_eq_true_eq] at this; exact this.1.2)
        refine wpAnyH_ready (rs := [9]) (by kernel_rfl) (by simp) ?_
        refine AllReadyH.cons rfl (fun K hK => ?_) AllReadyH.nil
        go_simp
        obtain ⟨rk, rn, rd, hsub⟩ : ∃ rk rn rd, subT (trF [t1, t2, t3]) s.k s.m s.f = (rk, rn, rd) := ⟨_, _, _, rfl⟩
        rw [hsub] at C9
        clear hsub
        refine Calls.mono C9.out ?_
        rintro e x9 ⟨a3, l3, c3, bs3, he, hg, hn3⟩
        subst he
        have hb8 := lt_of_block AL.out.du.boxB
        have AN := AL.out.du.quiet hg
        have hgt : Hid (SlO x9 25 a3 l3 c3 rd bs3 ∧ ∀ y ∈ bs3, q8 < y) := ⟨hn3.1, fun y hy => by have := hn3.2.2 y hy; omega⟩
        refine hK.out _ _ (three AN.boxA).1 (fun hH2 => ?_)
        clear AL C9 hg hn3 hb8
        clear hK K hH
        have hH := hH2
        clear hH2
        simp only [Act.put, List.setIfInBounds_toArray, List.set_cons_zero, List.set_cons_succ, List.getElem_toArray, List.getElem_cons_succ, List.getElem_cons_zero]
        obtain ⟨⟨y0, y1, y2⟩, e0, e1, e2⟩ := three AN.boxB
        have AM := AN.putB ⟨rk, rn, a3, l3, c3, rd, bs3⟩ hgt.out.1 (fun y hy => by have := hgt.out.2 y hy; have := PQ.out; omega) (by have := PQ.out; omega) (by have := PQ.out; omega)
        clear AN hgt
        have AL : Hid (DuS w0 vb g a n cap q1 (q1 + 1) q7 q8 s ⟨rk, rn, a3, l3, c3, rd, bs3⟩ (((x9.setCell ⟨q8, 0, none⟩ (.int .i64 rk)).setCell ⟨q8, 1, none⟩ (.int .i64 rn)).setCell ⟨q8, 2, none⟩ (.slice a3 l3 c3))) := AM
        clear AM
        refine wpAnyH_ready (rs := [10]) (by kernel_rfl) (by simp) ?_
        refine AllReadyH.cons rfl (fun K hK => ?_) AllReadyH.nil
        go_simp
        refine hK.out _ _ (three AL.out.boxA).1 (fun hH2 => ?_)
        clear y0 y1 y2 e0 e1 e2
        clear hK K hH
        have hH := hH2
        clear hH2
        simp only [Act.put, List.setIfInBounds_toArray, List.set_cons_zero, List.set_cons_succ, List.getElem_toArray, List.getElem_cons_succ, List.getElem_cons_zero]
        refine wpAnyH_done (by kernel_rfl) ?_ _
        clear hH
        generalize ((x9.setCell ⟨q8, 0, none⟩ (.int .i64 rk)).setCell ⟨q8, 1, none⟩ (.int .i64 rn)).setCell ⟨q8, 2, none⟩ (.slice a3 l3 c3) = x10 at *
        go_wp2_with fail
        go_meet
        exact ⟨_, AL⟩
      refine AllReadyH.cons rfl (fun K hK => ?_) AllReadyH.nil
      go_simp
      refine Calls.mono (CT.out x0 1 (by omega) (by omega) AL.out.du.kept.1) ?_
      rintro e x1 ⟨t1, he, hk, hn, ho, hv⟩
      subst he
      have AN := AL.out.addT t1 hk hn ho (by have := PQ.out; omega)
      simp only [List.nil_append, List.cons_append] at AN
      refine hK.out _ _ (three AN.du.boxA).1 (fun hH2 => ?_)
      clear AL hk hn ho hv
      have AL : Hid _ := AN
      clear AN
      clear hK K hH
      have hH := hH2
      clear hH2
      simp only [Act.put, List.setIfInBounds_toArray, List.set_cons_zero, List.set_cons_succ, List.getElem_toArray, List.getElem_cons_succ, List.getElem_cons_zero]
      refine wpAnyH_ready (rs := [1, 5]) (by kernel_rfl) (by simp) ?_
      refine AllReadyH.cons rfl (fun K hK => ?_) ?_
      · go_simp
        have AN := AL.out.addI (by have := PQ.out; omega)
        refine hK.out _ _ (three AN.du.boxA).1 (fun hH2 => ?_)
        clear AL
        have AL : Hid _ := AN
        clear AN
        clear hK K hH
        have hH := hH2
        clear hH2
        simp only [Act.put, List.setIfInBounds_toArray, List.set_cons_zero, List.set_cons_succ, List.getElem_toArray, List.getElem_cons_succ, List.getElem_cons_zero]
        generalize x1.alloc (.cells #[.int .i64 0, .int .i64 1, .int .i64 2] 3) = x2 at *
        generalize x1.heap.size = qi at *
        refine wpAnyH_ready (rs := [5]) (by kernel_rfl) (by simp) ?_
        refine AllReadyH.cons rfl (fun K hK => ?_) AllReadyH.nil
        go_simp
        refine Calls.mono (CT.out x2 1 (by omega) (by omega) AL.out.du.kept.1) ?_
        rintro e x3 ⟨t2, he, hk, hn, ho, hv⟩
        subst he
        have AN := AL.out.addT t2 hk hn ho (by have := PQ.out; omega)
        simp only [List.nil_append, List.cons_append] at AN
        refine hK.out _ _ (three AN.du.boxA).1 (fun hH2 => ?_)
        clear AL hk hn ho hv
        have AL : Hid _ := AN
        clear AN
        clear hK K hH
        have hH := hH2
        clear hH2
        simp only [Act.put, List.setIfInBounds_toArray, List.set_cons_zero, List.set_cons_succ, List.getElem_toArray, List.getElem_cons_succ, List.getElem_cons_zero]
        refine wpAnyH_ready (rs := [7]) (by kernel_rfl) (by simp) ?_
        refine AllReadyH.cons rfl (fun K hK => ?_) AllReadyH.nil
        go_simp
        refine Calls.mono (CT.out x3 0 (by omega) (by omega) AL.out.du.kept.1) ?_
        rintro e x4 ⟨t3, he, hk, hn, ho, hv⟩
        subst he
        have AN := AL.out.addT t3 hk hn ho (by have := PQ.out; omega)
        simp only [List.nil_append, List.cons_append] at AN
        refine hK.out _ _ (three AN.du.boxA).1 (fun hH2 => ?_)
        clear AL hk hn ho hv
        have AL : Hid _ := AN
        clear AN
        clear hK K hH
        have hH := hH2
        clear hH2
        simp only [Act.put, List.setIfInBounds_toArray, List.set_cons_zero, List.set_cons_succ, List.getElem_toArray, List.getElem_cons_succ, List.getElem_cons_zero]
        refine wpAnyH_ready (rs := [8]) (by kernel_rfl) (by simp) ?_
        refine AllReadyH.cons rfl (fun K hK => ?_) AllReadyH.nil
        go_simp
        have AN := AL.out.addE
        refine hK.out _ _ (three AN.du.boxA).1 (fun hH2 => ?_)
        clear AL
        have AL : Hid _ := AN
        clear AN
        clear hK K hH
        have hH := hH2
        clear hH2
        simp only [Act.put, List.setIfInBounds_toArray, List.set_cons_zero, List.set_cons_succ, List.getElem_toArray, List.getElem_cons_succ, List.getElem_cons_zero]
        generalize x4.alloc (.cells #[.int .i64 t1.k, .int .i64 t1.m, .slice t1.a t1.l t1.c, .int .i64 t2.k, .int .i64 t2.m, .slice t2.a t2.l t2.c, .int .i64 t3.k, .int .i64 t3.m, .slice t3.a t3.l t3.c] 25) = x5 at *
        generalize x4.heap.size = qe at *
        have C9 : Hid _ := putT (trF [t1, t2, t3]) (some ⟨qe, 0, none⟩) (some ⟨qi, 0, none⟩) 3 3 3 (okL_trF (fun y hy => (AL.out.trs y hy).ok)) (s.f.size + 1) s.f s.k s.m s.a s.l s.c 9 s.bs x5 (Nat.lt_succ_self _) (by have := HLb.out.2.2.2.2.2.2; simp only [okT, Bool.and_eq_true, decide_eq_true_eq] at this; omega) AL.out.du.ownA (AL.out.lst qe rfl) (AL.out.ints qi rfl).2 (by have := HLb.out.2.2.2.2.2.2; simp only [okT, Bool.and_eq_true, decide_eq_true_eq] at this; rw [← AL.out.du.ownA.1]; exact this.1.1) (by have := HLb.out.2.2.2.2.2.2; simp only [okT, Bool.and_eq_true, decide_eq_true_eq] at this; exact this.1.2)
        refine wpAnyH_ready (rs := [9]) (by kernel_rfl) (by simp) ?_
        refine AllReadyH.cons rfl (fun K hK => ?_) AllReadyH.nil
        go_simp
        obtain ⟨rk, rn, rd, hsub⟩ : ∃ rk rn rd, subT (trF [t1, t2, t3]) s.k s.m s.f = (rk, rn, rd) := ⟨_, _, _, rfl⟩
        rw [hsub] at C9
        clear hsub
        refine Calls.mono C9.out ?_
        rintro e x9 ⟨a3, l3, c3, bs3, he, hg, hn3⟩
        subst he
        have hb8 := lt_of_block AL.out.du.boxB
        have AN := AL.out.du.quiet hg
        have hgt : Hid (SlO x9 25 a3 l3 c3 rd bs3 ∧ ∀ y ∈ bs3, q8 < y) := ⟨hn3.1, fun y hy => by have := hn3.2.2 y hy; omega⟩
        refine hK.out _ _ (three AN.boxA).1 (fun hH2 => ?_)
        clear AL C9 hg hn3 hb8
        clear hK K hH
        have hH := hH2
        clear hH2
        simp only [Act.put, List.setIfInBounds_toArray, List.set_cons_zero, List.set_cons_succ, List.getElem_toArray, List.getElem_cons_succ, List.getElem_cons_zero]
        obtain ⟨⟨y0, y1, y2⟩, e0, e1, e2⟩ := three AN.boxB
        have AM := AN.putB ⟨rk, rn, a3, l3, c3, rd, bs3⟩ hgt.out.1 (fun y hy => by have := hgt.out.2 y hy; have := PQ.out; omega) (by have := PQ.out; omega) (by have := PQ.out; omega)
        clear AN hgt
        have AL : Hid (DuS w0 vb g a n cap q1 (q1 + 1) q7 q8 s ⟨rk, rn, a3, l3, c3, rd, bs3⟩ (((x9.setCell ⟨q8, 0, none⟩ (.int .i64 rk)).setCell ⟨q8, 1, none⟩ (.int .i64 rn)).setCell ⟨q8, 2, none⟩ (.slice a3 l3 c3))) := AM
        clear AM
        refine wpAnyH_ready (rs := [10]) (by kernel_rfl) (by simp) ?_
        refine AllReadyH.cons rfl (fun K hK => ?_) AllReadyH.nil
        go_simp
        refine hK.out _ _ (three AL.out.boxA).1 (fun hH2 => ?_)
        clear y0 y1 y2 e0 e1 e2
        clear hK K hH
        have hH := hH2
        clear hH2
        simp only [Act.put, List.setIfInBounds_toArray, List.set_cons_zero, List.set_cons_succ, List.getElem_toArray, List.getElem_cons_succ, List.getElem_cons_zero]
        refine wpAnyH_done (by kernel_rfl) ?_ _
        clear hH
        generalize ((x9.setCell ⟨q8, 0, none⟩ (.int .i64 rk)).setCell ⟨q8, 1, none⟩ (.int .i64 rn)).setCell ⟨q8, 2, none⟩ (.slice a3 l3 c3) = x10 at *
        go_wp2_with fail
        go_meet
        exact ⟨_, AL⟩
      refine AllReadyH.cons rfl (fun K hK => ?_) AllReadyH.nil
      go_simp
      refine Calls.mono (CT.out x1 1 (by omega) (by omega) AL.out.du.kept.1) ?_
      rintro e x2 ⟨t2, he, hk, hn, ho, hv⟩
      subst he
      have AN := AL.out.addT t2 hk hn ho (by have := PQ.out; omega)
      simp only [List.nil_append, List.cons_append] at AN
      refine hK.out _ _ (three AN.du.boxA).1 (fun hH2 => ?_)
      clear AL hk hn ho hv
      have AL : Hid _ := AN
      clear AN
      clear hK K hH
      have hH := hH2
      clear hH2
      simp only [Act.put, List.setIfInBounds_toArray, List.set_cons_zero, List.set_cons_succ, List.getElem_toArray, List.getElem_cons_succ, List.getElem_cons_zero]
      refine wpAnyH_ready (rs := [1, 7]) (by kernel_rfl) (by simp) ?_
      refine AllReadyH.cons rfl (fun K hK => ?_) ?_
      · go_simp
        have AN := AL.out.addI (by have := PQ.out; omega)
        refine hK.out _ _ (three AN.du.boxA).1 (fun hH2 => ?_)
        clear AL
        have AL : Hid _ := AN
        clear AN
        clear hK K hH
        have hH := hH2
        clear hH2
        simp only [Act.put, List.setIfInBounds_toArray, List.set_cons_zero, List.set_cons_succ, List.getElem_toArray, List.getElem_cons_succ, List.getElem_cons_zero]
        generalize x2.alloc (.cells #[.int .i64 0, .int .i64 1, .int .i64 2] 3) = x3 at *
        generalize x2.heap.size = qi at *
        refine wpAnyH_ready (rs := [7]) (by kernel_rfl) (by simp) ?_
        refine AllReadyH.cons rfl (fun K hK => ?_) AllReadyH.nil
        go_simp
        refine Calls.mono (CT.out x3 0 (by omega) (by omega) AL.out.du.kept.1) ?_
        rintro e x4 ⟨t3, he, hk, hn, ho, hv⟩
        subst he
        have AN := AL.out.addT t3 hk hn ho (by have := PQ.out; omega)
        simp only [List.nil_append, List.cons_append] at AN
        refine hK.out _ _ (three AN.du.boxA).1 (fun hH2 => ?_)
        clear AL hk hn ho hv
        have AL : Hid _ := AN
        clear AN
        clear hK K hH
        have hH := hH2
        clear hH2
        simp only [Act.put, List.setIfInBounds_toArray, List.set_cons_zero, List.set_cons_succ, List.getElem_toArray, List.getElem_cons_succ, List.getElem_cons_zero]
        refine wpAnyH_ready (rs := [8]) (by kernel_rfl) (by simp) ?_
        refine AllReadyH.cons rfl (fun K hK => ?_) AllReadyH.nil
        go_simp
        have AN := AL.out.addE
        refine hK.out _ _ (three AN.du.boxA).1 (fun hH2 => ?_)
        clear AL
        have AL : Hid _ := AN
        clear AN
        clear hK K hH
        have hH := hH2
        clear hH2
        simp only [Act.put, List.setIfInBounds_toArray, List.set_cons_zero, List.set_cons_succ, List.getElem_toArray, List.getElem_cons_succ, List.getElem_cons_zero]
        generalize x4.alloc (.cells #[.int .i64 t1.k, .int .i64 t1.m, .slice t1.a t1.l t1.c, .int .i64 t2.k, .int .i64 t2.m, .slice t2.a t2.l t2.c, .int .i64 t3.k, .int .i64 t3.m, .slice t3.a t3.l t3.c] 25) = x5 at *
        generalize x4.heap.size = qe at *
        have C9 : Hid _ := putT (trF [t1, t2, t3]) (some ⟨qe, 0, none⟩) (some ⟨qi, 0, none⟩) 3 3 3 (okL_trF (fun y hy => (AL.out.trs y hy).ok)) (s.f.size + 1) s.f s.k s.m s.a s.l s.c 9 s.bs x5 (Nat.lt_succ_self _) (by have := HLb.out.2.2.2.2.2.2; simp only [okT, Bool.and_eq_true, decide_eq_true_eq] at this; omega) AL.out.du.ownA (AL.out.lst qe rfl) (AL.out.ints qi rfl).2 (by have := HLb.out.2.2.2.2.2.2; simp only [okT, Bool.and_eq_true, decide_eq_true_eq] at this; rw [← AL.out.du.ownA.1]; exact this.1.1) (by have := HLb.out.2.2.2.2.2.2; simp only [okT, Bool.and_eq_true, decide_eq_true_eq] at this; exact this.1.2)
        refine wpAnyH_ready (rs := [9]) (by kernel_rfl) (by simp) ?_
        refine AllReadyH.cons rfl (fun K hK => ?_) AllReadyH.nil
        go_simp
        obtain ⟨rk, rn, rd, hsub⟩ : ∃ rk rn rd, subT (trF [t1, t2, t3]) s.k s.m s.f = (rk, rn, rd) := ⟨_, _, _, rfl⟩
        rw [hsub] at C9
        clear hsub
        refine Calls.mono C9.out ?_
        rintro e x9 ⟨a3, l3, c3, bs3, he, hg, hn3⟩
        subst he
        have hb8 := lt_of_block AL.out.du.boxB
        have AN := AL.out.du.quiet hg
        have hgt : Hid (SlO x9 25 a3 l3 c3 rd bs3 ∧ ∀ y ∈ bs3, q8 < y) := ⟨hn3.1, fun y hy => by have := hn3.2.2 y hy; omega⟩
        refine hK.out _ _ (three AN.boxA).1 (fun hH2 => ?_)
        clear AL C9 hg hn3 hb8
        clear hK K hH
        have hH := hH2
        clear hH2
        simp only [Act.put, List.setIfInBounds_toArray, List.set_cons_zero, List.set_cons_succ, List.getElem_toArray, List.getElem_cons_succ, List.getElem_cons_zero]
        obtain ⟨⟨y0, y1, y2⟩, e0, e1, e2⟩ := three AN.boxB
        have AM := AN.putB ⟨rk, rn, a3, l3, c3, rd, bs3⟩ hgt.out.1 (fun y hy => by have := hgt.out.2 y hy; have := PQ.out; omega) (by have := PQ.out; omega) (by have := PQ.out; omega)
        clear AN hgt
        have AL : Hid (DuS w0 vb g a n cap q1 (q1 + 1) q7 q8 s ⟨rk, rn, a3, l3, c3, rd, bs3⟩ (((x9.setCell ⟨q8, 0, none⟩ (.int .i64 rk)).setCell ⟨q8, 1, none⟩ (.int .i64 rn)).setCell ⟨q8, 2, none⟩ (.slice a3 l3 c3))) := AM
        clear AM
        refine wpAnyH_ready (rs := [10]) (by kernel_rfl) (by simp) ?_
        refine AllReadyH.cons rfl (fun K hK => ?_) AllReadyH.nil
        go_simp
        refine hK.out _ _ (three AL.out.boxA).1 (fun hH2 => ?_)
        clear y0 y1 y2 e0 e1 e2
        clear hK K hH
        have hH := hH2
        clear hH2
        simp only [Act.put, List.setIfInBounds_toArray, List.set_cons_zero, List.set_cons_succ, List.getElem_toArray, List.getElem_cons_succ, List.getElem_cons_zero]
        refine wpAnyH_done (by kernel_rfl) ?_ _
        clear hH
        generalize ((x9.setCell ⟨q8, 0, none⟩ (.int .i64 rk)).setCell ⟨q8, 1, none⟩ (.int .i64 rn)).setCell ⟨q8, 2, none⟩ (.slice a3 l3 c3) = x10 at *
        go_wp2_with fail
        go_meet
        exact ⟨_, AL⟩
      refine AllReadyH.cons rfl (fun K hK => ?_) AllReadyH.nil
      go_simp
      refine Calls.mono (CT.out x2 0 (by omega) (by omega) AL.out.du.kept.1) ?_
      rintro e x3 ⟨t3, he, hk, hn, ho, hv⟩
      subst he
      have AN := AL.out.addT t3 hk hn ho (by have := PQ.out; omega)
      simp only [List.nil_append, List.cons_append] at AN
      refine hK.out _ _ (three AN.du.boxA).1 (fun hH2 => ?_)
      clear AL hk hn ho hv
      have AL : Hid _ := AN
      clear AN
      clear hK K hH
      have hH := hH2
      clear hH2
      simp only [Act.put, List.setIfInBounds_toArray, List.set_cons_zero, List.set_cons_succ, List.getElem_toArray, List.getElem_cons_succ, List.getElem_cons_zero]
      refine wpAnyH_ready (rs := [1, 8]) (by kernel_rfl) (by simp) ?_
      refine AllReadyH.cons rfl (fun K hK => ?_) ?_
      · go_simp
        have AN := AL.out.addI (by have := PQ.out; omega)
        refine hK.out _ _ (three AN.du.boxA).1 (fun hH2 => ?_)
        clear AL
        have AL : Hid _ := AN
        clear AN
        clear hK K hH
        have hH := hH2
        clear hH2
        simp only [Act.put, List.setIfInBounds_toArray, List.set_cons_zero, List.set_cons_succ, List.getElem_toArray, List.getElem_cons_succ, List.getElem_cons_zero]
        generalize x3.alloc (.cells #[.int .i64 0, .int .i64 1, .int .i64 2] 3) = x4 at *
        generalize x3.heap.size = qi at *
        refine wpAnyH_ready (rs := [8]) (by kernel_rfl) (by simp) ?_
        refine AllReadyH.cons rfl (fun K hK => ?_) AllReadyH.nil
        go_simp
        have AN := AL.out.addE
        refine hK.out _ _ (three AN.du.boxA).1 (fun hH2 => ?_)
        clear AL
        have AL : Hid _ := AN
        clear AN
        clear hK K hH
        have hH := hH2
        clear hH2
        simp only [Act.put, List.setIfInBounds_toArray, List.set_cons_zero, List.set_cons_succ, List.getElem_toArray, List.getElem_cons_succ, List.getElem_cons_zero]
        generalize x4.alloc (.cells #[.int .i64 t1.k, .int .i64 t1.m, .slice t1.a t1.l t1.c, .int .i64 t2.k, .int .i64 t2.m, .slice t2.a t2.l t2.c, .int .i64 t3.k, .int .i64 t3.m, .slice t3.a t3.l t3.c] 25) = x5 at *
        generalize x4.heap.size = qe at *
        have C9 : Hid _ := putT (trF [t1, t2, t3]) (some ⟨qe, 0, none⟩) (some ⟨qi, 0, none⟩) 3 3 3 (okL_trF (fun y hy => (AL.out.trs y hy).ok)) (s.f.size + 1) s.f s.k s.m s.a s.l s.c 9 s.bs x5 (Nat.lt_succ_self _) (by have := HLb.out.2.2.2.2.2.2; simp only [okT, Bool.and_eq_true, decide_eq_true_eq] at this; omega) AL.out.du.ownA (AL.out.lst qe rfl) (AL.out.ints qi rfl).2 (by have := HLb.out.2.2.2.2.2.2; simp only [okT, Bool.and_eq_true, decide_eq_true_eq] at this; rw [← AL.out.du.ownA.1]; exact this.1.1) (by have := HLb.out.2.2.2.2.2.2; simp only [okT, Bool.and_eq_true, decide_eq_true_eq] at this; exact this.1.2)
        refine wpAnyH_ready (rs := [9]) (by kernel_rfl) (by simp) ?_
        refine AllReadyH.cons rfl (fun K hK => ?_) AllReadyH.nil
        go_simp
        obtain ⟨rk, rn, rd, hsub⟩ : ∃ rk rn rd, subT (trF [t1, t2, t3]) s.k s.m s.f = (rk, rn, rd) := ⟨_, _, _, rfl⟩
        rw [hsub] at C9
        clear hsub
        refine Calls.mono C9.out ?_
        rintro e x9 ⟨a3, l3, c3, bs3, he, hg, hn3⟩
        subst he
        have hb8 := lt_of_block AL.out.du.boxB
        have AN := AL.out.du.quiet hg
        have hgt : Hid (SlO x9 25 a3 l3 c3 rd bs3 ∧ ∀ y ∈ bs3, q8 < y) := ⟨hn3.1, fun y hy => by have := hn3.2.2 y hy; omega⟩
        refine hK.out _ _ (three AN.boxA).1 (fun hH2 => ?_)
        clear AL C9 hg hn3 hb8
        clear hK K hH
        have hH := hH2
        clear hH2
        simp only [Act.put, List.setIfInBounds_toArray, List.set_cons_zero, List.set_cons_succ, List.getElem_toArray, List.getElem_cons_succ, List.getElem_cons_zero]
        obtain ⟨⟨y0, y1, y2⟩, e0, e1, e2⟩ := three AN.boxB
        have AM := AN.putB ⟨rk, rn, a3, l3, c3, rd, bs3⟩ hgt.out.1 (fun y hy => by have := hgt.out.2 y hy; have := PQ.out; omega) (by have := PQ.out; omega) (by have := PQ.out; omega)
        clear AN hgt
        have AL : Hid (DuS w0 vb g a n cap q1 (q1 + 1) q7 q8 s ⟨rk, rn, a3, l3, c3, rd, bs3⟩ (((x9.setCell ⟨q8, 0, none⟩ (.int .i64 rk)).setCell ⟨q8, 1, none⟩ (.int .i64 rn)).setCell ⟨q8, 2, none⟩ (.slice a3 l3 c3))) := AM
        clear AM
        refine wpAnyH_ready (rs := [10]) (by kernel_rfl) (by simp) ?_
        refine AllReadyH.cons rfl (fun K hK => ?_) AllReadyH.nil
        go_simp
        refine hK.out _ _ (three AL.out.boxA).1 (fun hH2 => ?_)
        clear y0 y1 y2 e0 e1 e2
        clear hK K hH
        have hH := hH2
        clear hH2
        simp only [Act.put, List.setIfInBounds_toArray, List.set_cons_zero, List.set_cons_succ, List.getElem_toArray, List.getElem_cons_succ, List.getElem_cons_zero]
        refine wpAnyH_done (by kernel_rfl) ?_ _
        clear hH
        generalize ((x9.setCell ⟨q8, 0, none⟩ (.int .i64 rk)).setCell ⟨q8, 1, none⟩ (.int .i64 rn)).setCell ⟨q8, 2, none⟩ (.slice a3 l3 c3) = x10 at *
        go_wp2_with fail
        go_meet
        exact ⟨_, AL⟩
      refine AllReadyH.cons rfl (fun K hK => ?_) AllReadyH.nil
      go_simp
      have AN := AL.out.addE
      refine hK.out _ _ (three AN.du.boxA).1 (fun hH2 => ?_)
      clear AL
      have AL : Hid _ := AN
      clear AN
      clear hK K hH
      have hH := hH2
      clear hH2
      simp only [Act.put, List.setIfInBounds_toArray, List.set_cons_zero, List.set_cons_succ, List.getElem_toArray, List.getElem_cons_succ, List.getElem_cons_zero]
      generalize x3.alloc (.cells #[.int .i64 t1.k, .int .i64 t1.m, .slice t1.a t1.l t1.c, .int .i64 t2.k, .int .i64 t2.m, .slice t2.a t2.l t2.c, .int .i64 t3.k, .int .i64 t3.m, .slice t3.a t3.l t3.c] 25) = x4 at *
      generalize x3.heap.size = qe at *
      refine wpAnyH_ready (rs := [1]) (by kernel_rfl) (by simp) ?_
      refine AllReadyH.cons rfl (fun K hK => ?_) AllReadyH.nil
      go_simp
      have AN := AL.out.addI (by have := PQ.out; omega)
      refine hK.out _ _ (three AN.du.boxA).1 (fun hH2 => ?_)
      clear AL
      have AL : Hid _ := AN
      clear AN
      clear hK K hH
      have hH := hH2
      clear hH2
      simp only [Act.put, List.setIfInBounds_toArray, List.set_cons_zero, List.set_cons_succ, List.getElem_toArray, List.getElem_cons_succ, List.getElem_cons_zero]
      generalize x4.alloc (.cells #[.int .i64 0, .int .i64 1, .int .i64 2] 3) = x5 at *
      generalize x4.heap.size = qi at *
      have C9 : Hid _ := putT (trF [t1, t2, t3]) (some ⟨qe, 0, none⟩) (some ⟨qi, 0, none⟩) 3 3 3 (okL_trF (fun y hy => (AL.out.trs y hy).ok)) (s.f.size + 1) s.f s.k s.m s.a s.l s.c 9 s.bs x5 (Nat.lt_succ_self _) (by have := HLb.out.2.2.2.2.2.2; simp only [okT, Bool.and_eq_true, decide_eq_true_eq] at this; omega) AL.out.du.ownA (AL.out.lst qe rfl) (AL.out.ints qi rfl).2 (by have := HLb.out.2.2.2.2.2.2; simp only [okT, Bool.and_eq_true, decide_eq_true_eq] at this; rw [← AL.out.du.ownA.1]; exact this.1.1) (by have := HLb.out.2.2.2.2.2.2; simp only [okT, Bool.and_eq_true, decide_eq_true_eq] at this; exact this.1.2)
      refine wpAnyH_ready (rs := [9]) (by kernel_rfl) (by simp) ?_
      refine AllReadyH.cons rfl (fun K hK => ?_) AllReadyH.nil
      go_simp
      obtain ⟨rk, rn, rd, hsub⟩ : ∃ rk rn rd, subT (trF [t1, t2, t3]) s.k s.m s.f = (rk, rn, rd) := ⟨_, _, _, rfl⟩
      rw [hsub] at C9
      clear hsub
      refine Calls.mono C9.out ?_
      rintro e x9 ⟨a3, l3, c3, bs3, he, hg, hn3⟩
      subst he
      have hb8 := lt_of_block AL.out.du.boxB
      have AN := AL.out.du.quiet hg
      have hgt : Hid (SlO x9 25 a3 l3 c3 rd bs3 ∧ ∀ y ∈ bs3, q8 < y) := ⟨hn3.1, fun y hy => by have := hn3.2.2 y hy; omega⟩
      refine hK.out _ _ (three AN.boxA).1 (fun hH2 => ?_)
      clear AL C9 hg hn3 hb8
      clear hK K hH
      have hH := hH2
      clear hH2
      simp only [Act.put, List.setIfInBounds_toArray, List.set_cons_zero, List.set_cons_succ, List.getElem_toArray, List.getElem_cons_succ, List.getElem_cons_zero]
      obtain ⟨⟨y0, y1, y2⟩, e0, e1, e2⟩ := three AN.boxB
      have AM := AN.putB ⟨rk, rn, a3, l3, c3, rd, bs3⟩ hgt.out.1 (fun y hy => by have := hgt.out.2 y hy; have := PQ.out; omega) (by have := PQ.out; omega) (by have := PQ.out; omega)
      clear AN hgt
      have AL : Hid (DuS w0 vb g a n cap q1 (q1 + 1) q7 q8 s ⟨rk, rn, a3, l3, c3, rd, bs3⟩ (((x9.setCell ⟨q8, 0, none⟩ (.int .i64 rk)).setCell ⟨q8, 1, none⟩ (.int .i64 rn)).setCell ⟨q8, 2, none⟩ (.slice a3 l3 c3))) := AM
      clear AM
      refine wpAnyH_ready (rs := [10]) (by kernel_rfl) (by simp) ?_
      refine AllReadyH.cons rfl (fun K hK => ?_) AllReadyH.nil
      go_simp
      refine hK.out _ _ (three AL.out.boxA).1 (fun hH2 => ?_)
      clear y0 y1 y2 e0 e1 e2
      clear hK K hH
      have hH := hH2
      clear hH2
      simp only [Act.put, List.setIfInBounds_toArray, List.set_cons_zero, List.set_cons_succ, List.getElem_toArray, List.getElem_cons_succ, List.getElem_cons_zero]
      refine wpAnyH_done (by kernel_rfl) ?_ _
      clear hH
      generalize ((x9.setCell ⟨q8, 0, none⟩ (.int .i64 rk)).setCell ⟨q8, 1, none⟩ (.int .i64 rn)).setCell ⟨q8, 2, none⟩ (.slice a3 l3 c3) = x10 at *
      go_wp2_with fail
      go_meet
      exact ⟨_, AL⟩
  case rest =>
  obtain ⟨t9, AL9⟩ := hcut
  clear AL
  have AL := AL9
  clear AL9
  go_wp2_with fail
  refine Calls.mono (CO.out wc 9 AL.out.kept.1 (by omega) (by omega)) ?_
  rintro e x8 ⟨cc, he, hk⟩
  subst he
  have AN := AL.out.cur hk (by have := PQ.out; omega)
  clear AL hk
  have AL : Hid (DuS w0 vb g a n cap q1 (q1 + 1) q7 q8 s t9 x8) := AN
  clear AN
  simp only []
  go_upto_if 38 with fail
  go_cut [39] (fun _ wx => ∃ T : Tr, Hid (DuS w0 vb g a n cap q1 (q1 + 1) q7 q8 s T wx))
  case first =>
    cases cc with
    | false =>
      go_wp2_with fail
      go_meet
      exact ⟨t9, AL⟩
    | true =>
      go_wp2_with fail
      refine Calls.mono (CA.out x8 AL.out.kept.1) ?_
      rintro e x9 ⟨k3, m3, f3, a3, l3, c3, bs3, he, hk, hn3⟩
      subst he
      have hb8 := lt_of_block AL.out.boxB
      have AN := AL.out.cur hk (by have := PQ.out; omega)
      obtain ⟨⟨y0, y1, y2⟩, e0, e1, e2⟩ := three AN.boxB
      have AM := AN.putB ⟨k3, m3, a3, l3, c3, f3, bs3⟩ hn3.1 (fun y hy => by have := hn3.2.2 y hy; have := PQ.out; omega) (by have := PQ.out; omega) (by have := PQ.out; omega)
      clear AL hk hn3 AN hb8
      have AL : Hid (DuS w0 vb g a n cap q1 (q1 + 1) q7 q8 s ⟨k3, m3, a3, l3, c3, f3, bs3⟩ (((x9.setCell ⟨q8, 0, none⟩ (.int .i64 k3)).setCell ⟨q8, 1, none⟩ (.int .i64 m3)).setCell ⟨q8, 2, none⟩ (.slice a3 l3 c3))) := AM
      clear AM
      simp only []
      go_wp2_with fail
      go_meet
      exact ⟨_, AL⟩
  case rest =>
  obtain ⟨T, AL⟩ := hcut
  go_wp2_with fail
  have AD : Hid (DuS w0 vb g a n cap q1 (q1 + 1) q7 q8 s T wc.drew) := AL.out.quiet (grown_drew (World.grownBy.refl _ Option.none))
  clear AL
  have AL := AD
  clear AD
  refine wp_region_held_drew (S := (fun u => Tri q7 0 (.int .i64 s.k) (.int .i64 s.m) (.slice s.a s.l s.c) u ∧ Tri q8 0 (.int .i64 T.k) (.int .i64 T.m) (.slice T.a T.l T.c) u)) (by kernel_rfl) ⟨(three AL.out.boxA).1, (three AL.out.boxB).1⟩ (fun hH => ?_)
  generalize wc.drew = y0 at *
  simp only [List.size_toArray, List.length_cons, List.length_nil, Nat.reduceAdd, Array.replicate, List.replicate]
  refine wpAnyH_take (i := 0) (v := ?_) rfl (by kernel_rfl) (by kernel_rfl) (by kernel_rfl) (fun _ _ _ h => h) (Or.inl ⟨by rfl, ?_⟩) hH ?_
  rotate_left
  · (intro v hS; obtain ⟨⟨s0, s1, s2⟩, s3, s4, s5⟩ := hS; go_simp; try with_reducible rfl)
  simp only [Act.put, List.setIfInBounds_toArray, List.set_cons_zero, List.set_cons_succ, List.getElem_toArray, List.getElem_cons_succ, List.getElem_cons_zero]
  refine wpAnyH_take (i := 1) (v := ?_) rfl (by kernel_rfl) (by kernel_rfl) (by kernel_rfl) (fun _ _ _ h => h) (Or.inl ⟨by rfl, ?_⟩) hH ?_
  rotate_left
  · (intro v hS; obtain ⟨⟨s0, s1, s2⟩, s3, s4, s5⟩ := hS; go_simp; try with_reducible rfl)
  simp only [Act.put, List.setIfInBounds_toArray, List.set_cons_zero, List.set_cons_succ, List.getElem_toArray, List.getElem_cons_succ, List.getElem_cons_zero]
  refine wpAnyH_take (i := 2) (v := ?_) rfl (by kernel_rfl) (by kernel_rfl) (by kernel_rfl) (fun _ _ _ h => h) (Or.inl ⟨by rfl, ?_⟩) hH ?_
  rotate_left
  · (intro v hS; obtain ⟨⟨s0, s1, s2⟩, s3, s4, s5⟩ := hS; go_simp; try with_reducible rfl)
  simp only [Act.put, List.setIfInBounds_toArray, List.set_cons_zero, List.set_cons_succ, List.getElem_toArray, List.getElem_cons_succ, List.getElem_cons_zero]
  refine wpAnyH_take (i := 3) (v := ?_) rfl (by kernel_rfl) (by kernel_rfl) (by kernel_rfl) (fun _ _ _ h => h) (Or.inl ⟨by rfl, ?_⟩) hH ?_
  rotate_left
  · (intro v hS; obtain ⟨⟨s0, s1, s2⟩, s3, s4, s5⟩ := hS; go_simp; try with_reducible rfl)
  simp only [Act.put, List.setIfInBounds_toArray, List.set_cons_zero, List.set_cons_succ, List.getElem_toArray, List.getElem_cons_succ, List.getElem_cons_zero]
  have AE := AL.out.fin HLb.out.2.1 (by have := PQ.out; omega) (by have := PQ.out; omega) (by have := PQ.out; omega) HLb.out.1
  obtain ⟨⟨z0, z1, z2⟩, f0, f1, f2⟩ := three AE.res
  have AF : Hid _ := AE.put1 (.int .i64 s.k) (.int .i64 s.m) (.slice s.a s.l s.c) (by have := PQ.out; omega)
  clear AE AL
  refine wpAnyH_ready (rs := [4]) (by kernel_rfl) (by simp) ?_
  refine AllReadyH.cons rfl (fun K hK => ?_) AllReadyH.nil
  go_simp
  refine hK.out _ _ ⟨(three AF.out.boxA).1, (three AF.out.boxB).1⟩ (fun hH2 => ?_)
  clear z0 z1 z2 f0 f1 f2
  clear hK K hH
  have hH := hH2
  clear hH2
  simp only [Act.put, List.setIfInBounds_toArray, List.set_cons_zero, List.set_cons_succ, List.getElem_toArray, List.getElem_cons_succ, List.getElem_cons_zero]
  obtain ⟨⟨z0, z1, z2⟩, f0, f1, f2⟩ := three AF.out.res2
  have AG : Hid _ := AF.out.put2 (.int .i64 T.k) (.int .i64 T.m) (.slice T.a T.l T.c) (by have := PQ.out; omega)
  clear AF
  refine wpAnyH_ready (rs := [5]) (by kernel_rfl) (by simp) ?_
  refine AllReadyH.cons rfl (fun K hK => ?_) AllReadyH.nil
  go_simp
  refine hK.out _ _ ⟨(three AG.out.boxA).1, (three AG.out.boxB).1⟩ (fun hH2 => ?_)
  clear z0 z1 z2 f0 f1 f2
  clear hK K hH
  have hH := hH2
  clear hH2
  simp only [Act.put, List.setIfInBounds_toArray, List.set_cons_zero, List.set_cons_succ, List.getElem_toArray, List.getElem_cons_succ, List.getElem_cons_zero]
  refine wpAnyH_done (by kernel_rfl) ?_ _
  clear hH
  go_wp2
  (try simp only [Exit.inBlock, Exit.then])
  refine bodyPost_ret (results_tcc (P := Try.prog) Try.results16 _ _ q1 (q1 + 1) _ _ _ _ _ _ _ rfl AG.out.res rfl AG.out.res2 Try.underlying25 rfl (by kernel_rfl) (by kernel_rfl)) rfl ?_
  exact ⟨f, L, avb, cvb, s, T, rfl, AG.out.grown, AG.out.lst.shown (fun _ _ _ => rfl), AG.out.ownA, AG.out.ownB, HLb.out.2.2.1, HLb.out.2.2.2.1, HLb.out.2.2.2.2.1, HLb.out.2.2.2.2.2.1⟩
end Go.Proofs.Ytmlganaiajhjeaa.By
