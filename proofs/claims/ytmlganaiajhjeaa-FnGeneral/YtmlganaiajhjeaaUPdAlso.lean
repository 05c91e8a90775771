/-
  Several texts in one (UDa, UPd). No statement is proved here.
-/
import Derived.Test.YtmlganaiajhjeaaUYc
import Derived.Test.YtmlganaiajhjeaaUUbAlso
import Derived.Test.YtmlganaiajhjeaaTDg
import Derived.Test.YtmlganaiajhjeaaUPb
import Derived.Test.YtmlganaiajhjeaaUS
namespace Go.Proofs.Ytmlganaiajhjeaa.By
open Go.RowKit
set_option linter.unusedVariables false
set_option linter.unusedSimpArgs false

def V5 (x : Int) : Prop := 0 ≤ x ∧ x < 5
theorem okF_fit {f : F} {p : Nat} (h : okF f p = true) : fitF f = true := by rw [okF_iff, Bool.and_eq_true] at h; exact h.1
theorem Kept.tnD {w0 w u u' : World} {g n cap : Nat} {a : Option Addr} {bl : List Nat} (h : Kept w0 w u g a n cap) (ht : Tn u u' bl) (hb : ∀ y ∈ bl, w.heap.size ≤ y ∧ g < y) (h0 : w0.heap.size ≤ w.heap.size) : Kept w0 w u' g a n cap := by
  obtain ⟨⟨c1', c2', i, x, hbx, hi⟩, hgr⟩ := h
  have hgu := lt_of_block hbx
  exact ⟨⟨c1', ⟨ht.os.trans c2'.os, ht.tape.trans c2'.tape, ht.output.trans c2'.output, Nat.le_trans c2'.size ht.size, fun j hj => (ht.block j (Nat.lt_of_lt_of_le hj c2'.size) (fun hx => by have := (hb j hx).1; omega)).trans (c2'.block j hj)⟩, i, x, (ht.block g hgu (fun hx => by have := (hb g hx).2; omega)).trans hbx, hi⟩, ⟨ht.os.trans hgr.os, ht.tape.trans hgr.tape, ht.output.trans hgr.output, Nat.le_trans hgr.size ht.size, fun j hj hr => (ht.block j (Nat.lt_of_lt_of_le hj hgr.size) (fun hx => by have := (hb j hx).1; omega)).trans (hgr.block j hj hr)⟩⟩
/-- Binds are handed back, in memory of their own; the cursor has moved. -/
def DrB (w0 w : World) (g : Nat) (a : Option Addr) (n cap : Nat) (e : Ending) (u : World) : Prop :=
  ∃ (L : B) (av : Option Addr) (cv : Nat) (bs : List Nat), e = .returned (.slice av L.len cv) ∧ Kept w0 w u g a n cap ∧ NewB w u 25 44 av L.len cv L bs ∧ (cv = 0 → av = none) ∧ wfB L ∧ allB V5 L

set_option maxRecDepth 8000 in
set_option maxHeartbeats 4000000 in
theorem l4bindsT (w0 : World) (g : Nat) (a : Option Addr) (n cap : Nat) (zs : List Int) (hr : Reads w0 a n zs) (hz : Byt zs) (hn : n ≤ 9223372036854775807) (w : World) (hc : Cur w0 w g a n cap) :
    Calls Try.prog 50 #[.pointer (some ⟨g, 0, none⟩)] w fun e u => DrB w0 w g a n cap e u := by
  have hgl : g < w.heap.size := by obtain ⟨_, _, i, x, hb, _⟩ := hc; exact lt_of_block hb
  have h0w : w0.heap.size ≤ w.heap.size := hc.2.1.size
  have CB : Hid (∀ (v : World) (m : Int), Cur w0 v g a n cap → 0 < m → m ≤ 100 → Calls Try.prog 39 #[.pointer (some ⟨g, 0, none⟩), .int .i64 m] v fun e w' => ∃ x, e = .returned (.int .i64 x) ∧ 0 ≤ x ∧ x < m ∧ Kept w0 v w' g a n cap) := fun v m hv h1 h2 => belowT w0 v g a n cap zs hr hz hn hv m h1 (by omega)
  have CT : Hid (∀ (v : World) (dp : Nat), dp ≤ 2 → Cur w0 v g a n cap → Calls Try.prog 51 #[.pointer (some ⟨g, 0, none⟩), .int .i64 dp, .int .i64 5, .int .i64 2] v fun e u => DrG w0 v g a n cap (2 ^ (dp + 1)) 5 dp e u) := fun v dp hd hv => l3tyG w0 g a n cap zs hr hz hn 5 2 (by omega) (by omega) (by omega) (by omega) dp v (by omega) hv
  have HC : Hid (Cur w0 w g a n cap) := hc
  clear hc hr hz hn
  go_enter Try.func50, Try.ntmps50
  go_wp2_with fail
  refine Calls.mono (CB.out w 4 HC.out (by omega) (by omega)) ?_
  rintro e u1 ⟨x, he, hx0, hx1, hk⟩
  subst he
  obtain ⟨N, rfl⟩ : ∃ N : Nat, x = (N : Int) := ⟨x.toNat, by omega⟩
  have K1 : Hid (Kept w0 w u1 g a n cap) := hk
  clear hk HC
  simp only []
  go_wp2_with fail
  go_loopw [3, 5] (fun lst i wr => ∃ (j : Nat) (L : B) (av : Option Addr) (cv : Nat) (bs : List Nat), j ≤ N ∧ i = .int .i64 j ∧ lst = .slice av L.len cv ∧ Hid (Kept w0 w wr g a n cap ∧ NewB w wr 25 44 av L.len cv L bs ∧ (cv = 0 → av = none) ∧ wfB L ∧ allB V5 L)) (fun _ i _ => N - (intOf i).toNat)
  case atStart => exact ⟨0, .nil, none, 0, [], Nat.zero_le _, rfl, rfl, K1.out, NewB.nil _ _ _ _, fun _ => rfl, trivial, trivial⟩
  case round =>
    obtain ⟨j, L, av, cv, bs, hj, rfl, rfl, HQ⟩ := hrel
    by_cases hlt : j < N
    · have hlt' : (j : Int) < (N : Int) := by omega
      go_wp2_with fail
      refine Calls.mono (CB.out wr 5 HQ.out.1.1 (by omega) (by omega)) ?_
      rintro e u2 ⟨y, he, hy0, hy1, hk2⟩
      subst he
      have K2 : Hid (Kept w0 wr u2 g a n cap) := hk2
      clear hk2
      simp only []
      go_wp2_with fail
      refine Calls.mono (CB.out u2 3 K2.out.1 (by omega) (by omega)) ?_
      rintro e u3 ⟨z, he, hz0, hz1, hk3⟩
      subst he
      obtain ⟨dp, rfl⟩ : ∃ dp : Nat, z = (dp : Int) := ⟨z.toNat, by omega⟩
      have K3 : Hid (Kept w0 wr u3 g a n cap) := K2.out.trans hk3
      clear hk3 K2
      simp only []
      go_wp2_with fail
      refine Calls.mono (CT.out u3 dp (by omega) K3.out.1) ?_
      rintro e u4 ⟨k, m, f, a4, l4, c4, bs4, he, hk4, hn4, hc4, hf4, hg4⟩
      subst he
      have K4 : Hid (Kept w0 wr u4 g a n cap) := K3.out.trans hk4
      have hwf := HQ.out.2.2.2.1
      have hp2 : 2 ^ (dp + 1) ≤ 8 := by
        have : dp = 0 ∨ dp = 1 ∨ dp = 2 := by omega
        rcases this with rfl | rfl | rfl <;> decide
      have g1 : gT (7, y, .nil) := ⟨(GoodT.var (vars := 5) (dp := 0) hy0 hy1 (by omega)).1, rfl⟩
      have g2 : gT (k, m, f) := ⟨hg4.1, okF_fit hg4.2.1⟩
      obtain ⟨s, hs⟩ := unV_some (a := (7, y, .nil)) (b := (k, m, f)) hwf g1 g2
      have hO := HQ.out.2.1.1.kept K4.out.2 (fun x hx e => by have := HQ.out.2.1.2.2 x hx; have h1 : x = g := (by injection e); omega)
      have CU : Hid _ := l4unifyC s L av cv bs .nil f 7 y k m none a4 0 0 l4 c4 _ u4 hs hwf g1 g2 (by simp [F.size]) (by omega) hO HQ.out.2.1.2.1 HQ.out.2.2.1 ⟨rfl, by omega, .inl rfl⟩ hn4.1.reads
      have HS : Hid (un s L (7, y, .nil) (k, m, f) = some (unV L (7, y, .nil) (k, m, f)) ∧ gT (7, y, .nil) ∧ gT (k, m, f) ∧ GoodT 5 dp k m f ∧ SlOB u4 25 44 av L.len cv L bs) := ⟨hs, g1, g2, hg4, hO⟩
      clear hk4 hn4 hc4 hg4 g1 g2 hs hO K3 hwf hf4 hp2
      simp only []
      go_wp2_with fail
      refine Calls.mono CU.out ?_
      rintro e u5 ⟨hsp, he⟩
      have ht := hsp.tn HS.out.2.2.2.2 HQ.out.2.2.1
      have K5 : Hid (Kept w0 w u5 g a n cap) := Kept.tnD (HQ.out.1.trans K4.out) ht (fun x hx => by have := HQ.out.2.1.2.2 x hx; omega) h0w
      generalize unV L (7, y, .nil) (k, m, f) = R at *
      cases R with
      | none =>
        simp only [] at he
        subst he
        have HN : Hid (Kept w0 w u5 g a n cap ∧ NewB w u5 25 44 av L.len cv L bs ∧ (cv = 0 → av = none) ∧ wfB L ∧ allB V5 L) := ⟨K5.out, ⟨hsp.keeps HS.out.2.2.2.2 HQ.out.2.1.2.1, HQ.out.2.1.2⟩, HQ.out.2.2⟩
        clear CU HS K5 ht hsp K4 HQ
        simp only []
        go_wp2
        go_roundw
        case rel => exact ⟨j + 1, L, av, cv, bs, by omega, by go_num, rfl, HN⟩
        case measure => simp [intOf]; omega
      | some L' =>
        obtain ⟨a6, c6, bs6, he, hO6, hnd6, hin6, hna6, hrl6⟩ := he
        subst he
        have hsz := (HQ.out.1.trans K4.out).2.size
        have HN : Hid (Kept w0 w u5 g a n cap ∧ NewB w u5 25 44 a6 L'.len c6 L' bs6 ∧ (c6 = 0 → a6 = none) ∧ wfB L' ∧ allB V5 L') := ⟨K5.out, ⟨hO6, hnd6, fun x hx => (hin6 x hx).elim (fun h => HQ.out.2.1.2.2 x h) (fun h => Nat.le_trans hsz h)⟩, hna6, (un_wf s L _ _ L' HQ.out.2.2.2.1 HS.out.2.1 HS.out.2.2.1 HS.out.1).1, un_all s L (7, y, .nil) (k, m, f) L' HQ.out.2.2.2.2 (fun x hx => by simp [vTt, vT] at hx; subst hx; exact ⟨hy0, hy1⟩) (fun x hx => HS.out.2.2.2.1.2.2 x (by unfold vTt at hx; exact hx)) HS.out.1⟩
        clear CU HS K5 ht hsp K4 HQ hO6 hnd6 hin6 hna6 hrl6 hsz
        simp only []
        go_wp2
        go_roundw
        case rel => exact ⟨j + 1, L', a6, c6, bs6, by omega, by go_num, rfl, HN⟩
        case measure => simp [intOf]; omega
    · obtain rfl : j = N := by omega
      have CL : Hid _ := l4copyT L av L.len cv wr HQ.out.2.1.1.reads HQ.out.2.2.2.1
      go_wp2_with fail
      refine Calls.mono CL.out ?_
      rintro e u6 ⟨a7, c7, bs7, rfl, hN, hg, hna⟩
      have HN : Hid (Kept w0 w u6 g a n cap ∧ NewB w u6 25 44 a7 L.len c7 L bs7 ∧ (c7 = 0 → a7 = none) ∧ wfB L ∧ allB V5 L) := ⟨HQ.out.1.none hg, ⟨hN.1, hN.2.1, fun x hx => Nat.le_trans HQ.out.1.2.size (hN.2.2 x hx)⟩, hna, HQ.out.2.2.2⟩
      clear CL hN hg hna HQ
      simp only []
      go_wp2
      go_ret
      exact ⟨L, a7, c7, bs7, rfl, HN.out⟩
end Go.Proofs.Ytmlganaiajhjeaa.By

namespace Go.Proofs.Ytmlganaiajhjeaa.By
open Go.RowKit
set_option linter.unusedVariables false
set_option linter.unusedSimpArgs false

/-- A world without its blocks below lo. -/
def hideB (w : World) (lo : Nat) : World := { w with heap := w.heap.mapIdx fun i o => if i < lo then .map #[] 0 else o }
theorem hide_heap {w : World} {lo i : Nat} (h : lo ≤ i) : (hideB w lo).heap[i]? = w.heap[i]? := by
  unfold hideB
  rw [Array.getElem?_mapIdx]
  simp only [if_neg (show ¬ i < lo by omega)]
  cases w.heap[i]? <;> rfl
theorem hide_cells {w : World} {lo i : Nat} {cur : Array Value} {t : TypeId} {fr : Nat × Nat} (h : (hideB w lo).heap[i]? = some (.cells cur t fr)) : lo ≤ i := by
  unfold hideB at h
  rw [Array.getElem?_mapIdx] at h
  by_cases hi : i < lo
  · simp only [if_pos hi] at h
    cases hc : w.heap[i]? with
    | none => rw [hc] at h; cases h
    | some o => rw [hc] at h; cases h
  · omega
theorem hide_cell {w : World} {lo i j : Nat} (h : lo ≤ i) : (hideB w lo).cell? ⟨i, j, none⟩ = w.cell? ⟨i, j, none⟩ := cell_of_heap (hide_heap h)
theorem SlBD.fixB {w u : World} {t s : TypeId} {f : B} {a : Option Addr} {l : Nat} (h : SlBD w t s a l f) (hx : ∀ (i : Nat) (cur : Array Value) (y : TypeId), w.heap[i]? = some (.cells cur y (0, 0)) → u.heap[i]? = w.heap[i]?) : SlBD u t s a l f := by
  obtain ⟨h1, h2, h3⟩ := h
  refine ⟨h1, h2, ?_⟩
  rcases h3 with h3 | ⟨b, o, e, ⟨cur, hc⟩, h3⟩
  · exact .inl h3
  · have hb := hx b cur s hc
    exact .inr ⟨b, o, e, ⟨cur, hb.trans hc⟩, h3.fix hb (fun i cur hc => hx i cur t hc)⟩
/-- What reads so above lo reads so in any world that has these blocks. -/
theorem SlBD.shown {w u : World} {t s : TypeId} {f : B} {a : Option Addr} {l lo : Nat} (h : SlBD (hideB w lo) t s a l f) (hx : ∀ i, lo ≤ i → i < w.heap.size → u.heap[i]? = w.heap[i]?) : SlBD u t s a l f :=
  h.fixB fun i cur y hc => by
    have hl := hide_cells hc
    have e := hide_heap (w := w) hl
    exact (hx i hl (lt_of_block (e.symm.trans hc))).trans e.symm
theorem SlOB.hide {w : World} {t s : TypeId} {f : B} {a : Option Addr} {l c lo : Nat} {bs : List Nat} (h : SlOB w t s a l c f bs) (hb : ∀ x ∈ bs, lo ≤ x) : SlBD (hideB w lo) t s a l f := (h.of (w' := hideB w lo) (fun x hx => hide_heap (hb x hx))).typed
theorem SlO.hide {w : World} {t : TypeId} {f : F} {a : Option Addr} {l c lo : Nat} {bs : List Nat} (h : SlO w t a l c f bs) (hb : ∀ x ∈ bs, lo ≤ x) : SlD (hideB w lo) t a l f := (h.of (w' := hideB w lo) (fun x hx => hide_heap (hb x hx))).typed
theorem SlD.hideKept {w u : World} {t : TypeId} {f : F} {a : Option Addr} {l lo : Nat} (h : SlD (hideB w lo) t a l f) (hx : ∀ i, lo ≤ i → i < w.heap.size → u.heap[i]? = w.heap[i]?) : SlD (hideB u lo) t a l f :=
  h.fix fun i cur hc => by
    have hl := hide_cells hc
    have e := hide_heap (w := w) hl
    exact (hide_heap hl).trans ((hx i hl (lt_of_block (e.symm.trans hc))).trans e.symm)

theorem InBD.move {w u : World} {t : TypeId} {f : B} {b off b' off' : Nat} (h : InBD w t f b off) (hc : ∀ i, i < f.len * 4 → u.cell? ⟨b', off' + i, none⟩ = w.cell? ⟨b, off + i, none⟩) (hx : ∀ (i : Nat) (cur : Array Value), w.heap[i]? = some (.cells cur t (0, 0)) → u.heap[i]? = w.heap[i]?) : InBD u t f b' off' := by
  induction f generalizing off off' with
  | nil => trivial
  | cons v k n d r ih =>
    obtain ⟨⟨a, l, c, ⟨h0, h1, h2, h3⟩, h4⟩, hr⟩ := h
    have hlen : (B.cons v k n d r).len = r.len + 1 := rfl
    refine ⟨⟨a, l, c, ⟨?_, ?_, ?_, ?_⟩, h4.fix hx⟩, ih hr (fun i hi => ?_)⟩
    · have := hc 0 (by omega); simp only [Nat.add_zero] at this; exact this.trans h0
    · exact (hc 1 (by omega)).trans h1
    · exact (hc 2 (by omega)).trans h2
    · exact (hc 3 (by omega)).trans h3
    · have := hc (i + 4) (by omega)
      rw [show off' + 4 + i = off' + (i + 4) by omega, show off + 4 + i = off + (i + 4) by omega]
      exact this
theorem InBD.app {w : World} {t : TypeId} {f g : B} {b off : Nat} (h : InBD w t f b off) (k : InBD w t g b (off + f.len * 4)) : InBD w t (f.app g) b off := by
  induction f generalizing off with
  | nil => simpa [B.app, B.len] using k
  | cons v k' n d r ih =>
    obtain ⟨h0, hr⟩ := h
    refine ⟨h0, ih hr ?_⟩
    have e : off + 4 + r.len * 4 = off + (B.cons v k' n d r).len * 4 := by simp only [B.len]; omega
    rw [e]; exact k
theorem InBD.one {w : World} {t : TypeId} {v k n : Int} {d : F} {b off : Nat} {a : Option Addr} {l c : Nat} (h0 : Qua b off (.int .i64 v) (.int .i64 k) (.int .i64 n) (.slice a l c) w) (h3 : SlD w t a l d) : InBD w t (.cons v k n d .nil) b off := ⟨⟨a, l, c, h0, h3⟩, trivial⟩

theorem run_pushD {P : Program} {w : World} (t ty e tt : TypeId) (i : TypeInfo) (z : Value) (ht : P.underlying t = some (.slice e)) (hi : P.info? e = some i) (hz : i.zero = some z) (hsize : i.size = 4) (hby : i.bytes = 48) (hzs : z.cells.size = 4) (hett : e ≠ tt)
    (a : Option Addr) (l c : Nat) (f : B) (bs : List Nat) (h : SlOB w tt e a l c f bs) (ha : c = 0 → a = none) (hl : l ≤ 200000) (ad : Addr) (v k n : Int) (a' : Option Addr) (l' c' : Nat) (hnews : ∀ j u, [Value.int .i64 v, Value.int .i64 k, Value.int .i64 n, Value.slice a' l' c'][j]? = some u → w.cell? (ad.add j) = some u)
    (d : F) (lo : Nat) (hlo : lo ≤ w.heap.size) (hbs : ∀ x ∈ bs, lo ≤ x) (hd : SlD (hideB w lo) tt a' l' d) :
    ∃ a2 c2 w', (Builtin.append_ #[t, t] ty #[.slice a l c, .slice (some ad) 1 1]).run P w = .ok (.slice a2 (l + 1) c2) w' ∧ SlBD (hideB w' lo) tt e a2 (l + 1) (f.app (.cons v k n d .nil)) ∧ Tn w w' bs := by
  have hlt := h.lt
  obtain ⟨hfl, hlm, hlc, hx⟩ := h
  have src : Src P i.size t (.slice (some ad) 1 1) 1 [Value.int .i64 v, Value.int .i64 k, Value.int .i64 n, Value.slice a' l' c'] w := Src.ofSlice w ht ad 1 1 _ (by simp [hsize]) hnews (one4 _ _ _ _ _ _)
  have hlen1 : (f.app (.cons v k n d .nil)).len = l + 1 := by rw [B.app_len, hfl]; rfl
  have hgrow : ∀ (olds : List Value) (hold : (Builtin.firstCells i.size l (.slice a l c)).run P w.drew = .ok olds.toArray w.drew) (hol : olds.length = l * 4) (hd' : c < l + 1) (hcp : ∀ (u : World) (g : Nat), (∀ j, j < l * 4 → (hideB u lo).cell? ⟨g, j, none⟩ = olds[j]?) → (∀ (i : Nat) (cur : Array Value), (hideB w lo).heap[i]? = some (.cells cur tt (0, 0)) → (hideB u lo).heap[i]? = (hideB w lo).heap[i]?) → InBD (hideB u lo) tt f g 0),
      ∃ a2 c2 w', (Builtin.append_ #[t, t] ty #[.slice a l c, .slice (some ad) 1 1]).run P w = .ok (.slice a2 (l + 1) c2) w' ∧ SlBD (hideB w' lo) tt e a2 (l + 1) (f.app (.cons v k n d .nil)) ∧ Tn w w' bs := by
    intro olds hold hol hd' hcp
    have r := run_append_grow_src (P := P) w t t ty e i z ht hi hz a l c olds hold (.slice (some ad) 1 1) 1 _ src hd' (by omega) (growslice_fits hd' (by rw [hby]; omega))
    have hge := grownCap_ge w (l + 1) c e
    have hnew := heap_alloc_new w.drew (.cells ((olds ++ [Value.int .i64 v, Value.int .i64 k, Value.int .i64 n, Value.slice a' l' c']).toArray ++ Builtin.zeroCells z.cells (grownCap w (l + 1) c e - (l + 1))) e)
    have htn : Tn w (w.drew.alloc (.cells ((olds ++ [Value.int .i64 v, Value.int .i64 k, Value.int .i64 n, Value.slice a' l' c']).toArray ++ Builtin.zeroCells z.cells (grownCap w (l + 1) c e - (l + 1))) e)) [] := ⟨rfl, rfl, rfl, by simp, fun x hx _ => heap_alloc_old w.drew _ hx⟩
    have hnew : (w.drew.alloc (.cells ((olds ++ [Value.int .i64 v, Value.int .i64 k, Value.int .i64 n, Value.slice a' l' c']).toArray ++ Builtin.zeroCells z.cells (grownCap w (l + 1) c e - (l + 1))) e)).heap[w.heap.size]? = _ := hnew
    generalize (w.drew.alloc (.cells ((olds ++ [Value.int .i64 v, Value.int .i64 k, Value.int .i64 n, Value.slice a' l' c']).toArray ++ Builtin.zeroCells z.cells (grownCap w (l + 1) c e - (l + 1))) e)) = u at r hnew htn
    have hcell : ∀ j, j < l * 4 + 4 → u.cell? ⟨w.heap.size, j, none⟩ = (olds ++ [Value.int .i64 v, Value.int .i64 k, Value.int .i64 n, Value.slice a' l' c'])[j]? := by
      intro j hj
      rw [cell_of_row u w.heap.size j _ e (0, 0) hnew, Array.getElem?_append_left (by simp [hol]; omega), List.getElem?_toArray]
    have hold' : ∀ x, lo ≤ x → x < w.heap.size → u.heap[x]? = w.heap[x]? := fun x _ hx => htn.block x hx (by simp)
    have hfix : ∀ (i : Nat) (cur : Array Value), (hideB w lo).heap[i]? = some (.cells cur tt (0, 0)) → (hideB u lo).heap[i]? = (hideB w lo).heap[i]? := fun i cur hc => by
      have hl := hide_cells hc
      have e := hide_heap (w := w) hl
      exact (hide_heap hl).trans ((hold' i hl (lt_of_block (e.symm.trans hc))).trans e.symm)
    have hcell : ∀ j, j < l * 4 + 4 → (hideB u lo).cell? ⟨w.heap.size, j, none⟩ = (olds ++ [Value.int .i64 v, Value.int .i64 k, Value.int .i64 n, Value.slice a' l' c'])[j]? := fun j hj => (hide_cell hlo).trans (hcell j hj)
    have hO := hcp u w.heap.size (fun j hj => by rw [hcell j (by omega), List.getElem?_append_left (by omega)]) hfix
    have hD := hd.fix hfix
    have q0 : Qua w.heap.size (0 + f.len * 4) (.int .i64 v) (.int .i64 k) (.int .i64 n) (.slice a' l' c') (hideB u lo) := by
      refine ⟨?_, ?_, ?_, ?_⟩
      · rw [hfl, Nat.zero_add, hcell _ (by omega), List.getElem?_append_right (by omega), hol]; simp
      · rw [hfl, Nat.zero_add, hcell _ (by omega), List.getElem?_append_right (by omega), hol]; simp
      · rw [hfl, Nat.zero_add, hcell _ (by omega), List.getElem?_append_right (by omega), hol]; simp
      · rw [hfl, Nat.zero_add, hcell _ (by omega), List.getElem?_append_right (by omega), hol]; simp
    exact ⟨_, _, u, r, ⟨hlen1, by omega, .inr ⟨_, _, rfl, ⟨_, (hide_heap hlo).trans hnew⟩, hO.app (InBD.one q0 hD)⟩⟩, htn.mono (fun x hx => by simp at hx)⟩
  rcases hx with ⟨hc0, hb0⟩ | ⟨g, bs', hp0, rfl, rfl, ⟨cur, hg, hsz⟩, hown⟩
  · obtain rfl := ha hc0
    obtain rfl : l = 0 := by omega
    obtain rfl := B.nil_of_len hfl
    subst hc0 hb0
    exact hgrow [] (run_firstCells_none w.drew i.size 0 0 0) rfl (by omega) (fun u g _ _ => trivial)
  · by_cases hroom : l + 1 ≤ c
    · have hB : Blk4 w e g c := ⟨cur, hg, hsz⟩
      obtain ⟨hB3, hk3, tq, hoth⟩ := hB.put4 (l * 4) (by omega) (.int .i64 v) (.int .i64 k) (.int .i64 n) (.slice a' l' c')
      have r := run_append_room_src (P := P) w t t ty e i ht hi g 0 l c (.slice (some ad) 1 1) 1 _ src hroom (by rw [hsize]; intro j hj; obtain ⟨v, hv⟩ := hB.has (l * 4 + j) (by simp at hj; omega); rw [Nat.zero_add, hv]; rfl) (by rw [hsize]; intro j hj; exact hB.free _)
      rw [hsize, Nat.zero_add] at r
      have r' : (Builtin.append_ #[t, t] ty #[.slice (some ⟨g, 0, none⟩) l c, .slice (some ad) 1 1]).run P w = .ok (.slice (some ⟨g, 0, none⟩) (l + 1) c) ((((w.setCell ⟨g, l * 4, none⟩ (.int .i64 v)).setCell ⟨g, l * 4 + 1, none⟩ (.int .i64 k)).setCell ⟨g, l * 4 + 2, none⟩ (.int .i64 n)).setCell ⟨g, l * 4 + 3, none⟩ (.slice a' l' c')) := r
      generalize (((w.setCell ⟨g, l * 4, none⟩ (.int .i64 v)).setCell ⟨g, l * 4 + 1, none⟩ (.int .i64 k)).setCell ⟨g, l * 4 + 2, none⟩ (.int .i64 n)).setCell ⟨g, l * 4 + 3, none⟩ (.slice a' l' c') = u at r' hB3 hk3 tq hoth
      have hlg : lo ≤ g := hbs g (by simp)
      have hfix : ∀ (i : Nat) (cur : Array Value), (hideB w lo).heap[i]? = some (.cells cur tt (0, 0)) → (hideB u lo).heap[i]? = (hideB w lo).heap[i]? := fun i cur' hc => by
        have hl := hide_cells hc
        have e2 := hide_heap (w := w) hl
        rw [hide_heap hl, e2]
        rw [e2] at hc
        refine hk3.block i (lt_of_block hc) (fun ee => ?_)
        have e1 : i = g := (by injection ee)
        subst e1
        rw [hg] at hc
        injection hc with hc
        injection hc with _ hc
        exact hett hc
      have hO := ((hown.move (w' := hideB w lo) (b' := g) (off' := 0) (fun j hj => hide_cell hlg) (fun x hx => hide_heap (hbs x (List.mem_cons_of_mem _ hx)))).typed).move (u := hideB u lo) (b' := g) (off' := 0) (fun j hj => by rw [hide_cell hlg, hide_cell hlg]; exact hoth _ (.inl (by omega))) hfix
      have hD := hd.fix hfix
      obtain ⟨cur3, hg3, _⟩ := hB3
      obtain ⟨t0, t1, t2, t3⟩ := tq
      exact ⟨_, _, u, r', ⟨hlen1, by omega, .inr ⟨_, _, rfl, ⟨cur3, (hide_heap hlg).trans hg3⟩, hO.app (InBD.one (b := g) (off := 0 + f.len * 4) (by rw [hfl, Nat.zero_add]; exact ⟨(hide_cell hlg).trans t0, (hide_cell hlg).trans t1, (hide_cell hlg).trans t2, (hide_cell hlg).trans t3⟩) hD)⟩⟩, (Tn.row hk3).mono (fun x hx => by simp at hx; subst hx; simp)⟩
    · have hct := cells_take4 hg hsz hlc
      refine hgrow (cur.toList.take (l * 4)) ?_ (by simp; omega) (by omega) (fun u g' hc hb => ((hown.move (w' := hideB w lo) (b' := g) (off' := 0) (fun j hj => hide_cell (hbs g (by simp))) (fun x hx => hide_heap (hbs x (List.mem_cons_of_mem _ hx)))).typed).move (fun j hj => ?_) hb)
      · refine run_firstCells_some w.drew i.size l ⟨g, 0, none⟩ l c _ (by simp [hsize]; omega) (fun j u hu => ?_)
        have hj : j < l * 4 := by have := (List.getElem?_eq_some_iff.1 hu).1; simp at this; omega
        rw [Go.WideShapes.add_plain, Nat.zero_add]
        exact (hct j hj).trans hu
      · rw [Nat.zero_add, hc j (by omega), hide_cell (hbs g (by simp)), hct j (by omega)]

theorem wpList_pushD {P : Program} {w : World} {ops : Array Oper} {rest : List Oper} {o : Oper} {ac : Act} {Q : Exit → Act → World → Prop}
    (hg : o.guard = none) (s x : Operand) (t : TypeId) (ho : o.op = .call { callee := .builtin .append, args := #[s, x], argTypes := #[t, t] })
    (e tt : TypeId) (i : TypeInfo) (z : Value) (ht : P.underlying t = some (.slice e)) (hi : P.info? e = some i) (hz : i.zero = some z) (hsize : i.size = 4) (hby : i.bytes = 48) (hzs : z.cells.size = 4) (hett : e ≠ tt)
    (a : Option Addr) (l c : Nat) (f : B) (bs : List Nat) (hs : ac.eval s = .slice a l c) (h : SlOB w tt e a l c f bs) (ha : c = 0 → a = none) (hl : l ≤ 200000) (ad : Addr) (hx : ac.eval x = .slice (some ad) 1 1) (v k n : Int) (a' : Option Addr) (l' c' : Nat) (hnews : ∀ j u, [Value.int .i64 v, Value.int .i64 k, Value.int .i64 n, Value.slice a' l' c'][j]? = some u → w.cell? (ad.add j) = some u)
    (d : F) (lo : Nat) (hlo : lo ≤ w.heap.size) (hbs : ∀ x ∈ bs, lo ≤ x) (hd : SlD (hideB w lo) tt a' l' d)
    (H : ∀ a2 c2 w', SlBD (hideB w' lo) tt e a2 (l + 1) (f.app (.cons v k n d .nil)) → Tn w w' bs → wpList P ops Q rest (ac.put o.dst (.slice a2 (l + 1) c2)) w') :
    wpList P ops Q (o :: rest) ac w := by
  refine wpList_plain hg fun K hK => ?_
  obtain ⟨a2, c2, w', hrun, h1, h2⟩ := run_pushD (P := P) (w := w) t o.type e tt i z ht hi hz hsize hby hzs hett a l c f bs h ha hl ad v k n a' l' c' hnews d lo hlo hbs hd
  unfold Oper.wp execOp
  simp only [ho, resolve, invoke, builtin, Sem.run_bind, Sem.run_pure, Result.andThen_ok, List.map_toArray, List.map_cons, List.map_nil, hs, hx, hrun]
  exact hK _ _ (H a2 c2 w' h1 h2)
end Go.Proofs.Ytmlganaiajhjeaa.By
