/-
  The document's draw of a foreign call, by its contract. No statement is proved here.
-/
import Derived.Test.YtccnninmkfhejaaYBe
import Derived.Test.YtccnninmkfhejaaSomeB
namespace Go.Proofs.Ytccnninmkfhejaa.By
open Go.RowKit
set_option linter.unusedVariables false
set_option linter.unusedSimpArgs false

theorem results_cell5 {P : Program} {fn : Func} {p u v x y : Tmp} {ty : TypeId} (h : fn.results = #[.cell p ty, .tmp u, .tmp v, .tmp x, .tmp y]) (tmps : Array Value) (w : World) (g : Nat) (t : TypeId) (cs : Array Value) (fr : Nat × Nat) (d : TypeDesc)
    (hp : tmps.getD p undef = .pointer (some ⟨g, 0, none⟩)) (hg : w.heap[g]? = some (.cells cs t fr))
    (hu : P.underlying ty = some d) (hd : (match d with | .struct _ | .array _ _ => true | _ => false) = true) (hi : (P.info? ty).map (·.size) = some cs.size) :
    (results fn tmps).run P w = .ok (.tuple #[.agg cs, tmps.getD u undef, tmps.getD v undef, tmps.getD x undef, tmps.getD y undef]) w := by
  have hp' : tmps[p]?.getD undef = .pointer (some ⟨g, 0, none⟩) := by simpa using hp
  simp [results, h, hp', asAddr, run_loadVar_row w g t ty cs fr d hg hu hd hi]
theorem convY (q : Nat) (w : World) (h : w.heap[q]? = some (.cells #[.int .u8 97] 5 (0, 0))) : ∃ w', (convert 22 22 (.slice (some ⟨q, 0, none⟩) 1 1)).run Try.prog w = .ok (.slice (some ⟨q, 0, none⟩) 1 1) w' ∧ w.grownBy w' (some q) ∧ w'.cell? ⟨q, 0, none⟩ = some (.int .u8 97) := by
  have hs : w.shape? q = some (5, 1) := by simp [World.shape?, h]
  refine ⟨w.freeze ⟨q, 1, none⟩ 1, ?_, ⟨rfl, rfl, rfl, ?_, ?_⟩, ?_⟩
  · simp [convert, run_underlying Try.underlying22, run_underlying Try.underlying5, markStringish, hs]
  · simp [World.freeze]
  · intro k hk hne
    have : q ≠ k := fun e => hne (by rw [e])
    simp [World.freeze, Array.getElem?_modify, this]
  · simp [World.freeze, World.cell?, Array.getElem?_modify, h]
theorem row_cap {u : World} {B : Nat} {t : TypeId} {s l : Nat} {d : Option Addr} {k : Nat} {zs : List Value} (h : u.ownsRow B t s (.slice d l k) l zs) : l ≤ k ∧ k ≤ 9223372036854775807 := by
  rcases h.2 with ⟨e, h0⟩ | ⟨g, cap, cur, e, hb, hg, hn, hm, -, -⟩
  · cases e; omega
  · cases e; unfold maxLen at hm; omega

theorem Mine.cur {u z : World} {B q g : Nat} {x : RWorld} {d1 : Option Addr} {l1 k1 : Nat} {d2 : Option Addr} {l2 k2 : Nat} {d3 : Option Addr} {l3 k3 : Nat} {vs : List Value} {hi : Nat} {cs : Array Value} (h : Mine u B q x d1 l1 k1 d2 l2 k2 d3 l3 k3 vs hi) (hg : u.grownBy z (some g)) (hc : u.heap[g]? = some (.cells cs 82 (0, 0))) : Mine z B q x d1 l1 k1 d2 l2 k2 d3 l3 k3 vs hi := by
  obtain ⟨h0, h1, h2, h3, h4, h5⟩ := h
  have hne : ∀ t', t' ≠ 82 → ∀ g', some g = some g' → ∀ cur, u.heap[g']? ≠ some (Obj.cells cur t' (0, 0)) := fun t' ht g' e cur e2 => by
    obtain rfl := Option.some.inj e
    rw [hc] at e2
    cases e2
    exact ht rfl
  exact ⟨(hg.block q (lt_of_block h0) (fun e => hne 27 (by decide) q e.symm _ h0)).trans h0, h1.kept hg (hne 3 (by decide)), row_keep h2 hg (fun b e => by obtain rfl := Option.some.inj e; exact ⟨_, _, hc, by decide⟩), row_keep h3 hg (fun b e => by obtain rfl := Option.some.inj e; exact ⟨_, _, hc, by decide⟩), h4.kept hg (hne 5 (by decide)), Nat.le_trans h5 hg.size⟩

/-- While calls are drawn. -/
structure LS (w0 wb u : World) (B g : Nat) (a : Option Addr) (n cap q j : Nat) (y : RWorld) : Prop where
  cur : Cur w0 u g a n cap
  gr : Bg B g wb u
  gB : g < B
  Bu : B ≤ u.heap.size
  Bq : B ≤ q
  mi : MineW u B q y
  tl : y.trace.length = j
  li : ∀ e ∈ y.trace, e.lit.length ≤ 1
  dl : y.draws.length ≤ 300
  sl : y.store.length ≤ 60 + j
  tk : -10 ≤ y.ticks ∧ y.ticks ≤ 4294967296
section
variable {w0 wb u z : World} {B g : Nat} {a : Option Addr} {n cap q j : Nat} {y : RWorld}
theorem LS.none (h : LS w0 wb u B g a n cap q j y) (hg : u.grownBy z Option.none) : LS w0 wb z B g a n cap q j y := by
  obtain ⟨e1, m1, j1, e2, m2, j2, e3, m3, j3, us, hi, hk, M⟩ := h.mi
  exact ⟨h.cur.none hg, h.gr.grown hg h.Bu (fun b e => by cases e), h.gB, Nat.le_trans h.Bu hg.size, h.Bq, ⟨e1, m1, j1, e2, m2, j2, e3, m3, j3, us, hi, hk, M.none hg⟩, h.tl, h.li, h.dl, h.sl, h.tk⟩
theorem LS.drawn (h : LS w0 wb u B g a n cap q j y) (k : Kept w0 u z g a n cap) : LS w0 wb z B g a n cap q j y := by
  obtain ⟨e1, m1, j1, e2, m2, j2, e3, m3, j3, us, hi, hk, M⟩ := h.mi
  obtain ⟨c1, c2, i, hh, hc, hi'⟩ := h.cur
  exact ⟨k.1, h.gr.grown k.2 h.Bu (fun b e => .inl (Option.some.inj e).symm), h.gB, Nat.le_trans h.Bu k.2.size, h.Bq, ⟨e1, m1, j1, e2, m2, j2, e3, m3, j3, us, hi, hk, M.cur k.2 hc⟩, h.tl, h.li, h.dl, h.sl, h.tk⟩
theorem LS.called {kind : Int} {y' : RWorld} {ev : REvent} (h : LS w0 wb u B g a n cap q j y) (S : StepW y kind 1 y' ev) (M : MineW z B q (evApp y' ev)) (hb : Below B u z) : LS w0 wb z B g a n cap q (j + 1) (evApp y' ev) := by
  obtain ⟨c1, c2, i, hh, hc, hi⟩ := h.cur
  obtain ⟨s1, s2, s3, s4, s5, s6⟩ := S
  have hlo : w0.heap.size ≤ B := Nat.le_trans c1 (Nat.le_of_lt h.gB)
  refine ⟨⟨c1, c2.trans (hb.mono hlo), i, hh, (hb.block g h.gB).trans hc, hi⟩, h.gr.below hb, h.gB, Nat.le_trans h.Bu hb.size, h.Bq, M, ?_, ?_, ?_, ?_, s6⟩
  · show (y'.trace ++ [ev]).length = j + 1
    rw [s1, List.length_append, h.tl]; rfl
  · show ∀ e ∈ y'.trace ++ [ev], e.lit.length ≤ 1
    rw [s1]
    intro e he
    rcases List.mem_append.1 he with he | he
    · exact h.li e he
    · simp only [List.mem_cons, List.not_mem_nil, or_false] at he; subst he; exact s3
  · exact Nat.le_trans s4 h.dl
  · have := h.sl; show y'.store.length ≤ 60 + (j + 1); omega
end
theorem szEv1 : ∀ (xs : List REvent), (∀ e ∈ xs, e.lit.length ≤ 1) → szEvents xs ≤ 2 * xs.length
  | [], _ => by simp [szEvents]
  | x :: r, h => by
    have h1 := h x (by simp)
    have h2 := szEv1 r (fun e he => h e (by simp [he]))
    simp only [szEvents, szEvent, List.length_cons]; omega
/-- What is drawn for a foreign call. -/
def DrawnF (w : World) (e : Ending) (u : World) : Prop :=
  ∃ (x : RWorld) (d1 : Option Addr) (l1 k1 : Nat) (d2 : Option Addr) (l2 k2 : Nat) (d3 : Option Addr) (l3 k3 : Nat) (kind A C : Int) (lit : List Int) (la : Option Addr) (ll lc : Nat), e = .returned (.tuple #[.agg #[.int .i64 x.ticks, .slice d1 l1 k1, .slice d2 l2 k2, .slice d3 l3 k3], .int .i64 kind, .int .i64 A, .int .i64 C, .slice la ll lc]) ∧ (∃ B vs hi, OwW u B x d1 l1 d2 l2 k2 d3 l3 k3 vs hi) ∧ RdB u la ll lit ∧ I64 kind ∧ I64 A ∧ I64 C ∧ szWorld x ≤ 1000 ∧ x.trace.length ≤ 3 ∧ ll ≤ 5 ∧ w.grownBy u none

set_option maxRecDepth 8000 in
set_option maxHeartbeats 8000000 in
theorem drawForeignT (a : Option Addr) (n cap : Nat) (zs : List Int) (w : World) (hr : Reads w a n zs) (hz : Byt zs) (hn : n ≤ 9223372036854775807) :
    Calls Try.prog 5 #[.slice a n cap] w fun e u => DrawnF w e u := by
  have ga0 := World.grownBy_alloc w (.cells #[.int .i64 0, .slice none 0 0, .slice none 0 0, .slice none 0 0] 27) none
  have H0 : Hid (w.grownBy (w.alloc (.cells #[.int .i64 0, .slice none 0 0, .slice none 0 0, .slice none 0 0] 27)) none ∧ (w.alloc (.cells #[.int .i64 0, .slice none 0 0, .slice none 0 0, .slice none 0 0] 27)).heap[w.heap.size]? = some (Obj.cells #[.int .i64 0, .slice none 0 0, .slice none 0 0, .slice none 0 0] 27 (0, 0)) ∧ Reads (w.alloc (.cells #[.int .i64 0, .slice none 0 0, .slice none 0 0, .slice none 0 0] 27)) a n zs) := ⟨ga0, heap_alloc_new w _, (RdB.none (show RdB w a n zs from ⟨hr, hz, hn⟩) ga0).1⟩
  have HZ : Hid (Byt zs ∧ n ≤ 9223372036854775807) := ⟨hz, hn⟩
  clear ga0 hr hz hn
  go_enter Try.func5, Try.ntmps5
  go_wp2_with fail
  generalize (w.alloc (.cells #[.int .i64 0, .slice none 0 0, .slice none 0 0, .slice none 0 0] 27)) = w1 at *
  obtain ⟨r, hr⟩ : ∃ r, w.heap.size = r := ⟨_, rfl⟩
  have HRR : Hid (w.heap.size ≤ r) := Nat.le_of_eq hr
  have HRE : Hid (∀ i, i < w.heap.size → i < r) := fun i hi => hr ▸ hi
  rw [hr] at H0 ⊢
  clear hr
  refine Calls.mono (newT a n cap zs w1 H0.out.2.2 HZ.out.1 HZ.out.2) ?_
  rintro e w2 ⟨g, rfl, hc, hg⟩
  have hB := fun w hc m hm hm1 => belowT w1 w g a n cap zs H0.out.2.2 HZ.out.1 HZ.out.2 hc m hm hm1
  have HB : Hid (∀ w, Cur w1 w g a n cap → ∀ m : Int, 0 < m → m ≤ 9223372036854775807 → Calls Try.prog 23 #[.pointer (some ⟨g, 0, none⟩), .int .i64 m] w fun e w' => ∃ x, e = .returned (.int .i64 x) ∧ 0 ≤ x ∧ x < m ∧ Kept w1 w w' g a n cap) := hB
  have hO := fun w hc m hm hm1 => onceT w1 w g a n cap zs H0.out.2.2 HZ.out.1 HZ.out.2 hc m hm hm1
  have HO : Hid (∀ w, Cur w1 w g a n cap → ∀ m : Int, 0 < m → m ≤ 9223372036854775807 → Calls Try.prog 25 #[.pointer (some ⟨g, 0, none⟩), .int .i64 m] w fun e w' => ∃ x : Bool, e = .returned (.bool x) ∧ Kept w1 w w' g a n cap) := hO
  clear hB hO
  have C2 : Hid (Cur w1 w2 g a n cap ∧ w1.grownBy w2 none ∧ g < w2.heap.size) := ⟨hc, hg, by obtain ⟨_, _, i, h, hb, _⟩ := hc; exact lt_of_block hb⟩
  clear hc hg
  go_wp2_with fail
  refine Calls.mono (lworldT w1 w2 w2.heap.size g a n cap zs H0.out.2.2 HZ.out.1 HZ.out.2 C2.out.1 C2.out.2.2 (Nat.le_refl _)) ?_
  rintro e w3 ⟨x, d1, l1, k1, d2, l2, k2, rfl, hd, hx⟩
  have HBB : Hid (w1.heap.size ≤ w2.heap.size) := C2.out.2.1.size
  generalize w2.heap.size = B at *
  have HD : Hid (_ ∧ _) := And.intro hd hx
  clear hd hx
  simp only []
  go_wp2_with fail
  refine Calls.mono (lbentT w1 w2 w3 B g a n cap zs H0.out.2.2 HZ.out.1 HZ.out.2 x d1 l1 k1 d2 l2 k2 HD.out.1 HD.out.2) ?_
  rintro e w4 ⟨y, e1, m1, j1, e2, m2, j2, rfl, hd4, hy⟩
  have L0 : Hid (LS w1 w2 (w4.alloc (.cells #[.int .i64 y.ticks, .slice e1 m1 j1, .slice e2 m2 j2, .slice none 0 0] 27)) B g a n cap w4.heap.size 0 y) := by
    have D := hd4.boxed
    have hc := row_cap D.dr
    exact ⟨D.cur, D.gr, D.gB, D.Bu, D.Bq, ⟨_, _, _, _, _, _, _, _, _, _, _, hc, D.mine (by omega)⟩, by rw [D.tr]; rfl, by rw [D.tr]; intro e he; simp at he, hy.1, hy.2.1, hy.2.2⟩
  clear hd4 hy HD
  simp only []
  go_wp2_with fail
  generalize (w4.alloc (.cells #[.int .i64 y.ticks, .slice e1 m1 j1, .slice e2 m2 j2, .slice none 0 0] 27)) = w5 at *
  generalize w4.heap.size = q at *
  refine Calls.mono (HB.out w5 L0.out.cur 4 (by omega) (by omega)) ?_
  rintro e w6 ⟨m, rfl, hm0, hm1, hk⟩
  have L1 : Hid (LS w1 w2 w6 B g a n cap q 0 y) := L0.out.drawn hk
  clear hk L0
  go_wp2_with fail
  go_loopw [10] (fun i wr => ∃ (j : Nat) (y : RWorld), (j : Int) ≤ m ∧ i = .int .i64 j ∧ Hid (LS w1 w2 wr B g a n cap q j y)) (fun i _ => m.toNat - (intOf i).toNat)
  case atStart => exact ⟨0, y, by omega, rfl, L1⟩
  case round =>
    clear L1
    obtain ⟨j, y, hj, rfl, HL⟩ := hrel
    by_cases hlt : (j : Int) < m
    · go_wp2_with fail
      refine Calls.mono (HB.out wr HL.out.cur 5 (by omega) (by omega)) ?_
      rintro e v1 ⟨kd, rfl, hk0, hk1, hk⟩
      have E1 : Hid (LS w1 w2 v1 B g a n cap q j y) := HL.out.drawn hk
      clear hk HL
      simp only []
      go_wp2_with fail
      refine Calls.mono (HB.out v1 E1.out.cur 6 (by omega) (by omega)) ?_
      rintro e v2 ⟨A, rfl, hA0, hA1, hk⟩
      have E2 : Hid (LS w1 w2 v2 B g a n cap q j y) := E1.out.drawn hk
      clear hk E1
      simp only []
      go_wp2_with fail
      refine Calls.mono (HB.out v2 E2.out.cur 6 (by omega) (by omega)) ?_
      rintro e v3 ⟨C, rfl, hC0, hC1, hk⟩
      have E3 : Hid (LS w1 w2 v3 B g a n cap q j y) := E2.out.drawn hk
      clear hk E2
      simp only []
      have gA := World.grownBy_alloc v3 (.cells #[.int .u8 97] 5) none
      obtain ⟨v4, hcv, kcv, ccv⟩ := convY v3.heap.size (v3.alloc (.cells #[.int .u8 97] 5)) (heap_alloc_new v3 _)
      have E4 : Hid (LS w1 w2 v4 B g a n cap q j y) := E3.out.none (grown_into gA kcv (Nat.le_refl _))
      have RL : Hid (RdB v4 (some ⟨v3.heap.size, 0, none⟩) 1 [97]) := ⟨⟨rfl, .inr ⟨_, 0, rfl, fun i hi => by
        have h0 : i = 0 := by omega
        subst h0
        exact ccv⟩⟩, fun z hz => by simp at hz; omega, by omega⟩
      clear gA kcv ccv E3
      obtain ⟨f1, n1, p1, f2, n2, p2, f3, n3, p3, us, hi, hkk, M⟩ := E4.out.mi
      have MM : Hid _ := M
      have hl2 : n2 ≤ 1000 := by have h1 := E4.out.sl; have h2 := M.2.2.1.1; rw [vE_len] at h2; omega
      have hl3 : n3 ≤ 1048576 := by have h1 := E4.out.tl; have h2 := M.2.2.2.1.1; rw [M.2.2.2.2.1.len] at h2; omega
      have CC : Hid _ := lcallW y B q kd A C [97] (some ⟨v3.heap.size, 0, none⟩) 1 1 f1 n1 p1 f2 n2 p2 f3 n3 p3 us hi v4 M E4.out.Bu E4.out.Bq E4.out.tk RL.out (by omega) (by omega) hkk hl2 hl3
      clear M hkk hl2 hl3 MM RL
      go_wp2_with fail
      refine Calls.mono CC.out ?_
      rintro e v5 ⟨y', ev, rfl, hst, hmw, hbl⟩
      have E5 : Hid (LS w1 w2 v5 B g a n cap q (j + 1) (evApp y' ev)) := E4.out.called hst hmw hbl
      clear hst hmw hbl E4 CC hcv
      simp only []
      go_wp2
      go_roundw
      case rel => exact ⟨j + 1, _, by omega, by go_num, E5⟩
      case measure => simp [intOf]; omega
    · have hj3 : j ≤ 3 := by omega
      have HJ : Hid (j ≤ 3) := hj3
      clear hj3
      go_wp2_with fail
      refine Calls.mono (HB.out wr HL.out.cur 5 (by omega) (by omega)) ?_
      rintro e v1 ⟨kd, rfl, hk0, hk1, hk⟩
      have E1 : Hid (LS w1 w2 v1 B g a n cap q j y) := HL.out.drawn hk
      clear hk HL
      simp only []
      go_wp2_with fail
      refine Calls.mono (HO.out v1 E1.out.cur 12 (by omega) (by omega)) ?_
      rintro e v2 ⟨bb, rfl, hk⟩
      have E2 : Hid (LS w1 w2 v2 B g a n cap q j y) := E1.out.drawn hk
      clear hk E1
      go_upto_if 38 with fail
      go_cut [11] (fun s wx => ∃ kd : Int, s = .int .i64 kd ∧ Hid (I64 kd) ∧ Hid (LS w1 w2 wx B g a n cap q j y))
      case first =>
        cases bb with
        | true =>
          go_wp2_with fail
          refine Calls.mono (pickIn w1 v2 g a n cap zs H0.out.2.2 HZ.out.1 HZ.out.2 E2.out.cur [-1, 5] (by decide) (by decide)) ?_
          rintro e v3 ⟨k2, rfl, hmem, hk⟩
          have E3 : Hid (LS w1 w2 v3 B g a n cap q j y) := E2.out.drawn hk
          have K3 : Hid (I64 k2) := by
            show _ ∧ _
            simp at hmem; omega
          clear hk E2 hmem
          simp only []
          go_wp2
          go_meet
          case rel => exact ⟨k2, rfl, K3, E3⟩
        | false =>
          have K3 : Hid (I64 kd) := by show _ ∧ _; omega
          go_wp2
          go_meet
          case rel => exact ⟨kd, rfl, K3, E2⟩
      case rest =>
      clear E2
      obtain ⟨kd, rfl, HKD, E2⟩ := hcut
      go_wp2_with fail
      refine Calls.mono (HB.out _ E2.out.cur 9 (by omega) (by omega)) ?_
      rintro e v3 ⟨A0, rfl, hA0, hA1, hk⟩
      have E3 : Hid (LS w1 w2 v3 B g a n cap q j y) := E2.out.drawn hk
      clear hk E2
      simp only []
      go_wp2_with fail
      refine Calls.mono (HO.out v3 E3.out.cur 6 (by omega) (by omega)) ?_
      rintro e v4 ⟨bb, rfl, hk⟩
      have E4 : Hid (LS w1 w2 v4 B g a n cap q j y) := E3.out.drawn hk
      clear hk E3
      go_upto_if 46 with fail
      go_cut [12] (fun s wx => ∃ A : Int, s = .int .i64 A ∧ Hid (I64 A) ∧ Hid (LS w1 w2 wx B g a n cap q j y))
      case first =>
        cases bb with
        | true =>
          go_wp2_with fail
          refine Calls.mono (signedT w1 v4 g a n cap zs H0.out.2.2 HZ.out.1 HZ.out.2 E4.out.cur) ?_
          rintro e v5 ⟨A2, rfl, hI, hk⟩
          have E5 : Hid (LS w1 w2 v5 B g a n cap q j y) := E4.out.drawn hk
          have K3 : Hid (I64 A2) := hI
          clear hk E4 hI
          simp only []
          go_wp2
          go_meet
          case rel => exact ⟨A2, rfl, K3, E5⟩
        | false =>
          have K3 : Hid (I64 (A0 - 2)) := by show _ ∧ _; omega
          go_wp2
          go_meet
          case rel => exact ⟨A0 - 2, rfl, K3, E4⟩
      case rest =>
      clear E4
      obtain ⟨A, rfl, HA, E4⟩ := hcut
      go_wp2_with fail
      have E5 : Hid (LS w1 w2 (World.drew _) B g a n cap q j y) := E4.out.none (grown_drew (World.grownBy.refl _ _))
      clear E4
      obtain ⟨f1, n1, p1, f2, n2, p2, f3, n3, p3, us, hi, hkk, M⟩ := E5.out.mi
      have MM : Hid _ := M
      refine wp_region_held_drew (S := (fun u => u.cell? ⟨q, 0, none⟩ = some (.int .i64 y.ticks) ∧ u.cell? ⟨q, 1, none⟩ = some (.slice f1 n1 p1) ∧ u.cell? ⟨q, 2, none⟩ = some (.slice f2 n2 p2) ∧ u.cell? ⟨q, 3, none⟩ = some (.slice f3 n3 p3))) (by kernel_rfl) (blkWorld M.1).1 (fun hH => ?_)
      clear M hkk
      generalize World.drew _ = u0 at *
      simp only [List.size_toArray, List.length_cons, List.length_nil, Nat.reduceAdd, Array.replicate, List.replicate]
      refine wpAnyH_take (i := 0) (v := ?_) rfl (by kernel_rfl) (by kernel_rfl) (by kernel_rfl) (fun _ _ _ h => h) (Or.inl ⟨by rfl, ?_⟩) hH ?_
      rotate_left
      · (intro v hS; obtain ⟨s0, s1, s2, s3⟩ := hS; go_simp; try with_reducible rfl)
      simp only [Act.put, List.setIfInBounds_toArray, List.set_cons_zero, List.set_cons_succ, List.getElem_toArray, List.getElem_cons_succ, List.getElem_cons_zero]
      refine wpAnyH_take (i := 1) (v := ?_) rfl (by kernel_rfl) (by kernel_rfl) (by kernel_rfl) (fun _ _ _ h => h) (Or.inl ⟨by rfl, ?_⟩) hH ?_
      rotate_left
      · (intro v hS; obtain ⟨s0, s1, s2, s3⟩ := hS; go_simp; try with_reducible rfl)
      simp only [Act.put, List.setIfInBounds_toArray, List.set_cons_zero, List.set_cons_succ, List.getElem_toArray, List.getElem_cons_succ, List.getElem_cons_zero]
      refine wpAnyH_take (i := 2) (v := ?_) rfl (by kernel_rfl) (by kernel_rfl) (by kernel_rfl) (fun _ _ _ h => h) (Or.inl ⟨by rfl, ?_⟩) hH ?_
      rotate_left
      · (intro v hS; obtain ⟨s0, s1, s2, s3⟩ := hS; go_simp; try with_reducible rfl)
      simp only [Act.put, List.setIfInBounds_toArray, List.set_cons_zero, List.set_cons_succ, List.getElem_toArray, List.getElem_cons_succ, List.getElem_cons_zero]
      refine wpAnyH_take (i := 3) (v := ?_) rfl (by kernel_rfl) (by kernel_rfl) (by kernel_rfl) (fun _ _ _ h => h) (Or.inl ⟨by rfl, ?_⟩) hH ?_
      rotate_left
      · (intro v hS; obtain ⟨s0, s1, s2, s3⟩ := hS; go_simp; try with_reducible rfl)
      simp only [Act.put, List.setIfInBounds_toArray, List.set_cons_zero, List.set_cons_succ, List.getElem_toArray, List.getElem_cons_succ, List.getElem_cons_zero]
      refine wpAnyH_take (i := 5) (v := ?_) rfl (by kernel_rfl) (by kernel_rfl) (by kernel_rfl) (fun _ _ _ h => h) (Or.inl ⟨by rfl, ?_⟩) hH ?_
      rotate_left
      · (intro v hS; obtain ⟨s0, s1, s2, s3⟩ := hS; go_simp; try with_reducible rfl)
      simp only [Act.put, List.setIfInBounds_toArray, List.set_cons_zero, List.set_cons_succ, List.getElem_toArray, List.getElem_cons_succ, List.getElem_cons_zero]
      refine wpAnyH_ready (rs := [4]) (by kernel_rfl) (by simp) ?_
      refine AllReadyH.cons rfl (fun K hK => ?_) AllReadyH.nil
      go_simp
      refine Calls.mono (signedT w1 u0 g a n cap zs H0.out.2.2 HZ.out.1 HZ.out.2 E5.out.cur) ?_
      rintro e u1 ⟨C, rfl, hI, hk⟩
      have E6 : Hid (LS w1 w2 u1 B g a n cap q j y) := E5.out.drawn hk
      have M6 : Hid (Mine u1 B q y f1 n1 p1 f2 n2 p2 f3 n3 p3 us hi) := by obtain ⟨c1, c2, i, hh, hc, hi'⟩ := E5.out.cur; exact Mine.cur MM.out hk.2 hc
      have HC : Hid (I64 C) := hI
      refine hK.out _ _ (blkWorld M6.out.1).1 (fun hH2 => ?_)
      clear hK K hH E5 MM hk hI
      have hH := hH2
      clear hH2
      simp only [Act.put, List.setIfInBounds_toArray, List.set_cons_zero, List.set_cons_succ, List.getElem_toArray, List.getElem_cons_succ, List.getElem_cons_zero]
      refine wpAnyH_ready (rs := [6]) (by kernel_rfl) (by simp) ?_
      refine AllReadyH.cons rfl (fun K hK => ?_) AllReadyH.nil
      go_simp
      refine Calls.mono (someT w1 u1 g a n cap zs H0.out.2.2 HZ.out.1 HZ.out.2 E6.out.cur 5 (by omega) (by omega)) ?_
      rintro e u2 ⟨vl, ys, rfl, hyl, hmb, hk⟩
      obtain ⟨la, lc, rfl⟩ := row_slice hmb.1
      have E7 : Hid (LS w1 w2 u2 B g a n cap q j y) := E6.out.drawn hk
      have M7 : Hid (Mine u2 B q y f1 n1 p1 f2 n2 p2 f3 n3 p3 us hi) := by obtain ⟨c1, c2, i, hh, hc, hi'⟩ := E6.out.cur; exact Mine.cur M6.out hk.2 hc
      have MB : Hid (MineB u2 u1.heap.size (.slice la ys.length lc) ys ∧ ys.length ≤ 5 ∧ B ≤ u1.heap.size) := ⟨hmb, by omega, E6.out.Bu⟩
      refine hK.out _ _ (blkWorld M7.out.1).1 (fun hH2 => ?_)
      clear hK K hH E6 M6 hk hmb hyl
      have hH := hH2
      clear hH2
      simp only [Act.put, List.setIfInBounds_toArray, List.set_cons_zero, List.set_cons_succ, List.getElem_toArray, List.getElem_cons_succ, List.getElem_cons_zero]
      have hrg : r < w1.heap.size := lt_of_block H0.out.2.1
      have hgw : w1.heap.size ≤ g := C2.out.1.1
      have hrr : u2.heap[r]? = some (Obj.cells #[.int .i64 0, .slice none 0 0, .slice none 0 0, .slice none 0 0] 27 (0, 0)) := (E7.out.gr.2.2.2.2 r (by have := HBB.out; omega) (by omega)).trans ((C2.out.2.1.block r hrg (by simp)).trans H0.out.2.1)
      obtain ⟨⟨z0, z1, z2, z3⟩, hfz⟩ := blkWorld hrr
      have fz0 := hfz 0
      have fz1 := hfz 1
      have fz2 := hfz 2
      have fz3 := hfz 3
      obtain ⟨mf, kf⟩ := fillWorld (.int .i64 y.ticks) (.slice f1 n1 p1) (.slice f2 n2 p2) (.slice f3 n3 p3) hrr
      have nqr : q ≠ r := by have := E7.out.Bq; have := HBB.out; omega
      have O8 : Hid (OwW (((((u2.setCell ⟨r, 0, none⟩ (.int .i64 y.ticks)).setCell ⟨r, 1, none⟩ (.slice f1 n1 p1)).setCell ⟨r, 2, none⟩ (.slice f2 n2 p2)).setCell ⟨r, 3, none⟩ (.slice f3 n3 p3))) B y f1 n1 f2 n2 p2 f3 n3 p3 us hi) := ow_kept M7.out.2 kf hrr
      have G8 : Hid (w.grownBy (((((u2.setCell ⟨r, 0, none⟩ (.int .i64 y.ticks)).setCell ⟨r, 1, none⟩ (.slice f1 n1 p1)).setCell ⟨r, 2, none⟩ (.slice f2 n2 p2)).setCell ⟨r, 3, none⟩ (.slice f3 n3 p3))) none) := by
        obtain ⟨b1, b2, b3, b4, b5⟩ := E7.out.gr
        have c := C2.out.2.1
        have d := H0.out.1
        refine ⟨kf.os.trans (b1.trans (c.os.trans d.os)), kf.tape.trans (b2.trans (c.tape.trans d.tape)), kf.output.trans (b3.trans (c.output.trans d.output)), Nat.le_trans d.size (Nat.le_trans c.size (Nat.le_trans b4 kf.size)), fun i hi _ => ?_⟩
        have h1 := HRE.out i hi
        have h2 := HBB.out
        have h3 := E7.out.Bu
        exact (kf.block i (by omega) (by simp; omega)).trans ((b5 i (by omega) (by omega)).trans ((c.block i (by omega) (by simp)).trans (d.block i hi (by simp))))
      have B8 : Hid (MineB (((((u2.setCell ⟨r, 0, none⟩ (.int .i64 y.ticks)).setCell ⟨r, 1, none⟩ (.slice f1 n1 p1)).setCell ⟨r, 2, none⟩ (.slice f2 n2 p2)).setCell ⟨r, 3, none⟩ (.slice f3 n3 p3))) u1.heap.size (.slice la ys.length lc) ys) := MB.out.1.kept kf (fun k e => by have := Option.some.inj e; have := MB.out.2.2; have := HBB.out; omega)
      have F8 : Hid _ := mf
      have S8 : Hid (((((u2.setCell ⟨r, 0, none⟩ (.int .i64 y.ticks)).setCell ⟨r, 1, none⟩ (.slice f1 n1 p1)).setCell ⟨r, 2, none⟩ (.slice f2 n2 p2)).setCell ⟨r, 3, none⟩ (.slice f3 n3 p3)).heap[q]? = _) := (kf.block q (lt_of_block M7.out.1) (by simp; omega)).trans M7.out.1
      have P8 : Hid (y.trace.length = j ∧ (∀ e ∈ y.trace, e.lit.length ≤ 1) ∧ y.draws.length ≤ 300 ∧ y.store.length ≤ 60 + j ∧ ys.length ≤ 5) := ⟨E7.out.tl, E7.out.li, E7.out.dl, E7.out.sl, MB.out.2.1⟩
      clear hfz hrr hrg hgw mf kf E7 M7 MB
      refine wpAnyH_ready (rs := [7]) (by kernel_rfl) (by simp) ?_
      refine AllReadyH.cons rfl (fun K hK => ?_) AllReadyH.nil
      go_simp
      refine hK.out _ _ (blkWorld S8.out).1 (fun hH2 => ?_)
      clear hK K hH z0 z1 z2 z3 fz0 fz1 fz2 fz3
      have hH := hH2
      clear hH2 S8
      simp only [Act.put, List.setIfInBounds_toArray, List.set_cons_zero, List.set_cons_succ, List.getElem_toArray, List.getElem_cons_succ, List.getElem_cons_zero]
      refine wpAnyH_take (i := 8) (v := ?_) rfl (by kernel_rfl) (by kernel_rfl) (by kernel_rfl) (fun _ _ _ h => h) (Or.inl ⟨by rfl, ?_⟩) hH ?_
      rotate_left
      · (intro v hS; go_simp; try with_reducible rfl)
      simp only [Act.put, List.setIfInBounds_toArray, List.set_cons_zero, List.set_cons_succ, List.getElem_toArray, List.getElem_cons_succ, List.getElem_cons_zero]
      refine wpAnyH_take (i := 9) (v := ?_) rfl (by kernel_rfl) (by kernel_rfl) (by kernel_rfl) (fun _ _ _ h => h) (Or.inl ⟨by rfl, ?_⟩) hH ?_
      rotate_left
      · (intro v hS; go_simp; try with_reducible rfl)
      simp only [Act.put, List.setIfInBounds_toArray, List.set_cons_zero, List.set_cons_succ, List.getElem_toArray, List.getElem_cons_succ, List.getElem_cons_zero]
      refine wpAnyH_take (i := 10) (v := ?_) rfl (by kernel_rfl) (by kernel_rfl) (by kernel_rfl) (fun _ _ _ h => h) (Or.inl ⟨by rfl, ?_⟩) hH ?_
      rotate_left
      · (intro v hS; go_simp; try with_reducible rfl)
      simp only [Act.put, List.setIfInBounds_toArray, List.set_cons_zero, List.set_cons_succ, List.getElem_toArray, List.getElem_cons_succ, List.getElem_cons_zero]
      refine wpAnyH_take (i := 11) (v := ?_) rfl (by kernel_rfl) (by kernel_rfl) (by kernel_rfl) (fun _ _ _ h => h) (Or.inl ⟨by rfl, ?_⟩) hH ?_
      rotate_left
      · (intro v hS; go_simp; try with_reducible rfl)
      simp only [Act.put, List.setIfInBounds_toArray, List.set_cons_zero, List.set_cons_succ, List.getElem_toArray, List.getElem_cons_succ, List.getElem_cons_zero]
      refine wpAnyH_done (by kernel_rfl) ?_ _
      clear hH
      go_wp2
      (try simp only [Exit.inBlock, Exit.then])
      refine bodyPost_ret (results_cell5 (P := Try.prog) Try.results5 _ _ r _ _ _ _ rfl F8.out Try.underlying27 rfl (by kernel_rfl)) rfl ?_
      obtain ⟨t1, t2, t3, t4, t5⟩ := P8.out
      obtain ⟨q1, q2, q3⟩ := ow_len O8.out
      have hs := szEv1 y.trace t2
      have hj := HJ.out
      exact ⟨y, f1, n1, p1, f2, n2, p2, f3, n3, p3, kd, A, C, ys, la, ys.length, lc, rfl, ⟨_, _, _, O8.out⟩, (own_rdB B8.out.1 B8.out.2 (by omega)).le CLe.unhidz, HKD.out, HA.out, HC.out, by unfold szWorld; rw [szEntrys_eq]; omega, by omega, t5, G8.out⟩
end Go.Proofs.Ytccnninmkfhejaa.By
