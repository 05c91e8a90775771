/-
  Several texts in one (UGe, TDc). No statement is proved here.
-/
import Derived.Test.YtmlganaiajhjeaaUUbAlso
import Derived.Test.YtmlganaiajhjeaaURAlso
import Derived.Test.YtmlganaiajhjeaaTDb
import Derived.Test.YtmlganaiajhjeaaTVbAlso
namespace Go.Proofs.Ytmlganaiajhjeaa.By
open Go.RowKit
set_option linter.unusedVariables false
set_option linter.unusedSimpArgs false

def sT (E : F) (t : Int × Int × F) : Int × Int × F := subT E t.1 t.2.1 t.2.2
theorem sT_var {E : F} {v : Int} {d : F} (h : d = .nil) : sT E (7, v, d) = sT E (7, v, .nil) := by rw [h]
/-- A tree put in for v, where the other list puts in the same for both. -/
theorem sF_p {E : F} {v k0 n0 : Int} {d0 : F} (h : sT E (7, v, .nil) = sT E (k0, n0, d0)) : ∀ f : F, fitF f = true → subF E (pF v k0 n0 d0 f) = subF E f := by
  intro f
  induction f with
  | nil => intro _; rfl
  | cons k n d r ihd ihr =>
    intro hf
    simp only [fitF, Bool.and_eq_true] at hf
    rw [pF_cons, subF_cons, subF_cons, ihr hf.2.2]
    have e : sT E (pT v k0 n0 d0 k n d) = sT E (k, n, d) := by
      unfold pT
      by_cases h7 : k = 7
      · rw [if_pos h7]
        by_cases hn : n = v
        · rw [if_pos hn]
          have hd : d = .nil := by subst h7; exact fit7 hf.1 rfl
          rw [← h, h7, hn, hd]
        · rw [if_neg hn]
      · rw [if_neg h7]
        show subT E k n (pF v k0 n0 d0 d) = subT E k n d
        rw [subT_other h7, subT_other h7, ihd hf.2.1]
    have e' : subT E (pT v k0 n0 d0 k n d).1 (pT v k0 n0 d0 k n d).2.1 (pT v k0 n0 d0 k n d).2.2 = subT E k n d := e
    rw [e']
theorem sT_p {E : F} {v k0 n0 : Int} {d0 : F} (h : sT E (7, v, .nil) = sT E (k0, n0, d0)) {t : Int × Int × F} (hg : gT t) : sT E (pT v k0 n0 d0 t.1 t.2.1 t.2.2) = sT E t := by
  obtain ⟨k, n, d⟩ := t
  have := sF_p h (.cons k n d .nil) (by simp only [fitF, Bool.and_eq_true]; exact ⟨hg.1, hg.2, trivial⟩)
  rw [pF_cons, subF_cons, subF_cons] at this
  injection this with e1 e2 e3 e4
  exact Prod.ext e1 (Prod.ext e2 e3)
/-- Each bind is kept by what is put in. -/
def solB (E : F) : B → Prop
  | .nil => True
  | .cons v k n d r => sT E (7, v, .nil) = sT E (k, n, d) ∧ solB E r
theorem solB_app {E : F} {L M : B} (h : solB E L) (k : solB E M) : solB E (L.app M) := by
  induction L with
  | nil => exact k
  | cons v k' n d r ih => exact ⟨h.1, ih h.2⟩
theorem sT_rs {E : F} : ∀ {L : B} {t : Int × Int × F}, wfB L → solB E L → gT t → sT E (rsT L t) = sT E t := by
  intro L
  induction L with
  | nil => intro t _ _ _; rfl
  | cons v k n d r ih =>
    intro t hL hs hg
    obtain ⟨h0, h1, h2, h3, h4⟩ := hL
    show sT E (rsT r (pT v k n d t.1 t.2.1 t.2.2)) = _
    rw [ih h4 hs.2 (pT_good (gT_ok h1) hg)]
    exact sT_p hs.1 hg
theorem sub_size (E : F) : ∀ f : F, fitF f = true → f.size ≤ (subF E f).size ∧ depF f ≤ depF (subF E f) ∧ ∀ v ∈ varsF f, (sT E (7, v, .nil)).2.2.size + 1 ≤ (subF E f).size := by
  intro f
  induction f with
  | nil => intro _; exact ⟨Nat.le_refl _, Nat.le_refl _, fun v hv => by simp [varsF] at hv⟩
  | cons k n d r ihd ihr =>
    intro hf
    simp only [fitF, Bool.and_eq_true] at hf
    obtain ⟨r1, r2, r3⟩ := ihr hf.2.2
    rw [subF_cons]
    by_cases h7 : k = 7
    · subst h7
      have hd : d = .nil := fit7 hf.1 rfl
      subst hd
      simp only [F.size, depF, varsF, if_pos]
      refine ⟨by omega, by omega, fun v hv => ?_⟩
      rcases List.mem_append.1 hv with hv | hv
      · simp only [List.mem_singleton] at hv
        subst hv
        unfold sT
        simp only []
        omega
      · have := r3 v hv; omega
    · obtain ⟨q1, q2, q3⟩ := ihd hf.2.1
      rw [subT_other h7]
      simp only [F.size, depF, varsF, if_neg h7]
      refine ⟨by omega, by omega, fun v hv => ?_⟩
      rcases List.mem_append.1 hv with hv | hv
      · have := q3 v hv; omega
      · have := r3 v hv; omega
theorem sT_big (E : F) {t : Int × Int × F} (h : gT t) : t.2.2.size ≤ (sT E t).2.2.size ∧ depF t.2.2 ≤ depF (sT E t).2.2 := by
  obtain ⟨k, n, d⟩ := t
  by_cases h7 : k = 7
  · have hd : d = .nil := by have := h.1; simp only [] at this; subst h7; exact fit7 this rfl
    subst hd
    simp [F.size, depF]
  · unfold sT
    simp only []
    rw [subT_other h7]
    have := sub_size E d h.2
    exact ⟨this.1, this.2.1⟩
theorem occurs {E : F} {v : Int} {t : Int × Int × F} (h : gT t) (h7 : t.1 ≠ 7) (he : sT E (7, v, .nil) = sT E t) : v ∉ vTt t := by
  obtain ⟨k, n, d⟩ := t
  intro hv
  unfold vTt vT at hv
  rw [if_neg h7] at hv
  have h1 := (sub_size E d h.2).2.2 v hv
  rw [he] at h1
  unfold sT at h1
  simp only [] at h1
  rw [subT_other h7] at h1
  simp only [] at h1
  omega
abbrev okS (E : F) (t : Int × Int × F) : Prop := 1 + depF (sT E t).2.2 ≤ 10 ∧ 1 + (sT E t).2.2.size ≤ 60
theorem unL_general {E : F} {g : Un} (H : ∀ L a b R, wfB L → gT a → gT b → solB E L → sT E a = sT E b → okS E a → g L a b = some R → ∃ L', R = some L' ∧ wfB L' ∧ solB E L') : ∀ (f f' : F) (L : B) (R : Option B), wfB L → fitF f = true → fitF f' = true → solB E L → subF E f = subF E f' → depF (subF E f) ≤ 9 → (subF E f).size ≤ 59 → unL g L f f' = some R → ∃ L', R = some L' ∧ wfB L' ∧ solB E L' := by
  intro f
  induction f with
  | nil =>
    intro f' L R hL _ _ hs he _ _ h
    cases f' <;> (cases h; exact ⟨L, rfl, hL, hs⟩)
  | cons k n d r _ ih =>
    intro f' L R hL hf hf' hs he hd hz h
    cases f' with
    | nil => cases h; exact ⟨L, rfl, hL, hs⟩
    | cons k' n' d' r' =>
      simp only [unL] at h
      simp only [fitF, Bool.and_eq_true] at hf hf'
      rw [subF_cons] at hd hz
      simp only [depF, F.size] at hd hz
      have he0 := he
      rw [subF_cons, subF_cons] at he0
      injection he0 with e1 e2 e3 e4
      cases hg : g L (k, n, d) (k', n', d') with
      | none => rw [hg] at h; cases h
      | some o =>
        rw [hg] at h
        obtain ⟨L1, rfl, w1, s1⟩ := H L (k, n, d) (k', n', d') o hL ⟨hf.1, hf.2.1⟩ ⟨hf'.1, hf'.2.1⟩ hs (Prod.ext e1 (Prod.ext e2 e3)) (by unfold okS sT; simp only []; omega) hg
        exact ih r' L1 R w1 hf.2.2 hf'.2.2 s1 e4 (by omega) (by omega) h
theorem un_general {E : F} (s : Nat) : ∀ L a b R, wfB L → gT a → gT b → solB E L → sT E a = sT E b → okS E a → un s L a b = some R → ∃ L', R = some L' ∧ wfB L' ∧ solB E L' := by
  induction s with
  | zero => intro L a b R _ _ _ _ _ _ h; cases h
  | succ s ih =>
    intro L a b R hL ha hb hs he hok h
    have ga := rsT_good hL ha
    have gb := rsT_good hL hb
    have sa := sT_rs hL hs ha
    have sb := sT_rs hL hs hb
    have ba := sT_big E ga
    have bb := sT_big E gb
    rw [sa] at ba
    rw [sb, ← he] at bb
    have eab : sT E (rsT L a) = sT E (rsT L b) := by rw [sa, sb, he]
    have h1 : (wOk L a.1 a.2.1 a.2.2 10 60 && wOk L b.1 b.2.1 b.2.2 10 60) = true := by
      obtain ⟨k, n, d⟩ := a
      obtain ⟨k', n', d'⟩ := b
      simp only [wOk, Bool.and_eq_true, decide_eq_true_eq]
      omega
    rw [un, if_pos h1] at h
    have key : ∀ L', some (some L') = some R → wfB L' ∧ solB E L' → ∃ L', R = some L' ∧ wfB L' ∧ solB E L' := fun L' e hh => by injection e with e; exact ⟨L', e.symm, hh⟩
    split at h
    · exact key L h ⟨hL, hs⟩
    rename_i x0
    have oa := wOk_ok hL ha (by simp only [Bool.and_eq_true] at h1; exact h1.1)
    have ob := wOk_ok hL hb (by simp only [Bool.and_eq_true] at h1; exact h1.2)
    split at h
    · rename_i x1
      have hd : (rsT L a).2.2 = .nil := (okT_var oa x1).2
      have ev : rsT L a = (7, (rsT L a).2.1, .nil) := Prod.ext x1 (Prod.ext rfl hd)
      have hn : (rsT L a).2.1 ∉ vTt (rsT L b) := by
        by_cases y7 : (rsT L b).1 = 7
        · intro hv
          unfold vTt vT at hv
          rw [if_pos y7] at hv
          exact x0 ⟨x1, y7, by simpa using hv⟩
        · exact occurs gb y7 (by rw [← ev]; exact eab)
      have hbu : bindU L (rsT L a).2.1 (rsT L b) = some (L.app (.cons (rsT L a).2.1 (rsT L b).1 (rsT L b).2.1 (rsT L b).2.2 .nil)) := by unfold bindU; rw [if_neg hn]
      rw [hbu] at h
      exact key _ h ⟨(bindU_wf hL (okT_var oa x1).1 (var_out hL x1) ob (rsT_vars hL) hbu).1, solB_app hs ⟨by rw [← ev]; exact eab, trivial⟩⟩
    rename_i x1
    split at h
    · rename_i x2
      have hd : (rsT L b).2.2 = .nil := (okT_var ob x2).2
      have ev : rsT L b = (7, (rsT L b).2.1, .nil) := Prod.ext x2 (Prod.ext rfl hd)
      have hn : (rsT L b).2.1 ∉ vTt (rsT L a) := occurs ga x1 (by rw [← ev]; exact eab.symm)
      have hbu : bindU L (rsT L b).2.1 (rsT L a) = some (L.app (.cons (rsT L b).2.1 (rsT L a).1 (rsT L a).2.1 (rsT L a).2.2 .nil)) := by unfold bindU; rw [if_neg hn]
      rw [hbu] at h
      exact key _ h ⟨(bindU_wf hL (okT_var ob x2).1 (var_out hL x2) oa (rsT_vars hL) hbu).1, solB_app hs ⟨by rw [← ev]; exact eab.symm, trivial⟩⟩
    rename_i x2
    have y1 : sT E (rsT L a) = ((rsT L a).1, (rsT L a).2.1, subF E (rsT L a).2.2) := subT_other x1
    have y2 : sT E (rsT L b) = ((rsT L b).1, (rsT L b).2.1, subF E (rsT L b).2.2) := subT_other x2
    have y3 := eab
    rw [y1, y2] at y3
    injection y3 with z1 y3
    injection y3 with z2 z3
    have hl : (rsT L a).2.2.len = (rsT L b).2.2.len := by have := congrArg F.len z3; rwa [subF_len, subF_len] at this
    rw [if_pos ⟨z1, z2, hl⟩] at h
    have e3 : (sT E a).2.2 = subF E (rsT L a).2.2 := by rw [← sa, y1]
    have hok' := hok
    unfold okS at hok'
    rw [e3] at hok'
    exact unL_general ih _ _ _ _ hL ga.2 gb.2 hs z3 (by omega) (by omega) h
/-- Where something makes both the same type, Unify finds what does so, and what it makes of one may be made into that. -/
theorem uniV_general {E : F} {s t : Int × Int × F} (o1 : okT s.1 s.2.1 s.2.2 = true) (o2 : okT t.1 t.2.1 t.2.2 = true) (he : sT E s = sT E t) (ho : okT (sT E s).1 (sT E s).2.1 (sT E s).2.2 = true) : ∃ L', uniV .nil s t = some L' ∧ sT E (rsT L' s) = sT E s := by
  have hn : bindsV .nil = true := rfl
  have hok : okS E s := by have := (okT_iff _ _ _).1 ho; exact ⟨this.2.2.1, this.2.2.2⟩
  obtain ⟨s0, hs⟩ := unV_some (L := .nil) (a := s) (b := t) trivial (gT_ok o1) (gT_ok o2)
  obtain ⟨L', hL', w1, s1⟩ := un_general s0 .nil s t _ trivial (gT_ok o1) (gT_ok o2) trivial he hok hs
  have hr := sT_rs w1 s1 (gT_ok o1)
  have hb := sT_big E (rsT_good w1 (gT_ok o1))
  rw [hr] at hb
  refine ⟨L', ?_, hr⟩
  unfold uniV
  rw [if_pos (by rw [hn, o1, o2]; rfl), hL']
  simp only []
  rw [if_pos]
  obtain ⟨k, n, d⟩ := s
  unfold okS at hok
  dsimp only at hb hok
  simp only [wOk, Bool.and_eq_true, decide_eq_true_eq]
  omega
end Go.Proofs.Ytmlganaiajhjeaa.By

namespace Go.Proofs.Ytmlganaiajhjeaa.By
open Go.RowKit
set_option linter.unusedVariables false
set_option linter.unusedSimpArgs false

theorem Kept.tn {w0 w u u' : World} {g n cap : Nat} {a : Option Addr} {bl : List Nat} (h : Kept w0 w u g a n cap) (ht : Tn u u' bl) (hb : ∀ y ∈ bl, w.heap.size ≤ y ∧ g < y) (h0 : w0.heap.size ≤ w.heap.size) : Kept w0 w u' g a n cap := by
  obtain ⟨⟨c1', c2', i, x, hbx, hi⟩, hgr⟩ := h
  have hgu := lt_of_block hbx
  exact ⟨⟨c1', ⟨ht.os.trans c2'.os, ht.tape.trans c2'.tape, ht.output.trans c2'.output, Nat.le_trans c2'.size ht.size, fun j hj => (ht.block j (Nat.lt_of_lt_of_le hj c2'.size) (fun hx => by have := (hb j hx).1; omega)).trans (c2'.block j hj)⟩, i, x, (ht.block g hgu (fun hx => by have := (hb g hx).2; omega)).trans hbx, hi⟩, ⟨ht.os.trans hgr.os, ht.tape.trans hgr.tape, ht.output.trans hgr.output, Nat.le_trans hgr.size ht.size, fun j hj hr => (ht.block j (Nat.lt_of_lt_of_le hj hgr.size) (fun hx => by have := (hb j hx).1; omega)).trans (hgr.block j hj hr)⟩⟩

/-- What stands while the list is drawn. -/
structure SbS (w0 w : World) (g : Nat) (a : Option Addr) (n cap : Nat) (q2 q3 : Nat) (k m : Int) (a1 : Option Addr) (l1 c1 : Nat) (f : F) (bs : List Nat) (u : World) : Prop where
  kept : Kept w0 w u g a n cap
  res : u.heap[q2]? = some (Obj.cells #[.int .i64 0, .int .i64 0, .slice none 0 0] 25)
  box : u.heap[q3]? = some (Obj.cells #[.int .i64 k, .int .i64 m, .slice a1 l1 c1] 25)
  own : SlO u 25 a1 l1 c1 f bs
  nd : bs.Nodup
  gt : ∀ y ∈ bs, g < y ∧ y < q3
theorem SbS.quiet {w0 w u u' : World} {g n cap q2 q3 : Nat} {a a1 : Option Addr} {k m : Int} {l1 c1 : Nat} {f : F} {bs : List Nat} (h : SbS w0 w g a n cap q2 q3 k m a1 l1 c1 f bs u) (hg : u.grownBy u' Option.none) : SbS w0 w g a n cap q2 q3 k m a1 l1 c1 f bs u' :=
  ⟨h.kept.none hg, (hg.block _ (lt_of_block h.res) (by simp)).trans h.res, (hg.block _ (lt_of_block h.box) (by simp)).trans h.box, h.own.old hg, h.nd, h.gt⟩
theorem SbS.cur {w0 w u u' : World} {g n cap q2 q3 : Nat} {a a1 : Option Addr} {k m : Int} {l1 c1 : Nat} {f : F} {bs : List Nat} (h : SbS w0 w g a n cap q2 q3 k m a1 l1 c1 f bs u) (hk : Kept w0 u u' g a n cap) (h1 : q2 < g) (h2 : g < q3) : SbS w0 w g a n cap q2 q3 k m a1 l1 c1 f bs u' :=
  ⟨h.kept.trans hk, (hk.2.block _ (lt_of_block h.res) (by simp; omega)).trans h.res, (hk.2.block _ (lt_of_block h.box) (by simp; omega)).trans h.box, h.own.kept hk.2 (fun y hy => by have := (h.gt y hy).1; simp; omega), h.nd, h.gt⟩
theorem SbS.tn {w0 w u u' : World} {g n cap q2 q3 : Nat} {a a1 : Option Addr} {k m : Int} {l1 c1 : Nat} {f : F} {bs bl : List Nat} (h : SbS w0 w g a n cap q2 q3 k m a1 l1 c1 f bs u) (ht : Tn u u' bl) (hb : ∀ y ∈ bl, q3 < y) (h0 : w0.heap.size ≤ w.heap.size) (h1 : q2 < g) (h2 : g < q3) (h3 : w.heap.size ≤ q3) : SbS w0 w g a n cap q2 q3 k m a1 l1 c1 f bs u' :=
  ⟨h.kept.tn ht (fun y hy => by have := hb y hy; omega) h0, (ht.block _ (lt_of_block h.res) (fun hx => by have := hb _ hx; omega)).trans h.res, (ht.block _ (lt_of_block h.box) (fun hx => by have := hb _ hx; omega)).trans h.box, h.own.of (fun y hy => ht.block y (h.own.lt y hy) (fun hx => by have := hb y hx; have := (h.gt y hy).2; omega)), h.nd, h.gt⟩

/-- A drawn tree and a drawn list are handed back, in memory of their own. -/
def DrS (w : World) (e : Ending) (u : World) : Prop :=
  ∃ (k m : Int) (f : F) (a1 : Option Addr) (l1 c1 : Nat) (bs : List Nat) (aL : Option Addr) (lL cL : Nat) (E : F) (bsL : List Nat), e = .returned (.tuple #[.agg #[.int .i64 k, .int .i64 m, .slice a1 l1 c1], .slice aL lL cL]) ∧ w.grownBy u none ∧ New w u 25 a1 l1 c1 f bs ∧ New w u 25 aL lL cL E bsL ∧ lL ≤ 4 ∧ (∀ x ∈ bs, x ∉ bsL)

set_option maxRecDepth 8000 in
set_option maxHeartbeats 4000000 in
theorem drawSubT (a : Option Addr) (n cap : Nat) (zs : List Int) (w : World) (hr : Reads w a n zs) (hz : Byt zs) (hn : n ≤ 9223372036854775807) :
    Calls Try.prog 8 #[.slice a n cap] w fun e u => DrS w e u := by
  have g0 := World.grownBy_alloc w (.cells #[.int .i64 0, .int .i64 0, .slice none 0 0] 25) none
  have C0 : Hid _ := newT a n cap zs _ (hr.none g0) hz hn
  have L0 : Hid (w.grownBy (w.alloc (.cells #[.int .i64 0, .int .i64 0, .slice none 0 0] 25)) none ∧ (w.alloc (.cells #[.int .i64 0, .int .i64 0, .slice none 0 0] 25)).heap[w.heap.size]? = some (Obj.cells #[.int .i64 0, .int .i64 0, .slice none 0 0] 25) ∧ Reads (w.alloc (.cells #[.int .i64 0, .int .i64 0, .slice none 0 0] 25)) a n zs) := ⟨g0, heap_alloc_new w _, hr.none g0⟩
  clear g0 hr
  go_enter Try.func8, Try.ntmps8
  go_wp2_with fail
  generalize w.alloc (.cells #[.int .i64 0, .int .i64 0, .slice none 0 0] 25) = w0 at *
  refine Calls.mono C0.out ?_
  rintro e v1 ⟨g, he, hc, hg⟩
  subst he
  have hq := lt_of_block L0.out.2.1
  have hc1 := hc.1
  have C1 : Hid _ := l3anyT w0 g a n cap zs L0.out.2.2 hz hn v1 hc
  have L1 : Hid (Cur w0 v1 g a n cap ∧ v1.heap[w.heap.size]? = some (Obj.cells #[.int .i64 0, .int .i64 0, .slice none 0 0] 25)) := ⟨hc, (hg.block _ hq (by simp)).trans L0.out.2.1⟩
  clear hc hg C0
  simp only []
  go_wp2_with fail
  refine Calls.mono C1.out ?_
  rintro e v2 ⟨k, m, f, a1, l1, c1, bs, he, hk, hnw⟩
  subst he
  have lt2 := lt_of_block L1.out.2
  have hgv : g < v1.heap.size := by obtain ⟨_, _, i, x, hb, _⟩ := L1.out.1; exact lt_of_block hb
  have ga := World.grownBy_alloc v2 (.cells #[.int .i64 k, .int .i64 m, .slice a1 l1 c1] 25) none
  have AL : Hid (SbS w0 v1 g a n cap w.heap.size v2.heap.size k m a1 l1 c1 f bs (v2.alloc (.cells #[.int .i64 k, .int .i64 m, .slice a1 l1 c1] 25))) := ⟨hk.none ga, (ga.block _ (Nat.lt_of_lt_of_le lt2 hk.2.size) (by simp)).trans ((hk.2.block _ lt2 (by simp; omega)).trans L1.out.2), heap_alloc_new v2 _, hnw.1.old ga, hnw.2.1, fun y hy => ⟨by have := hnw.2.2 y hy; omega, hnw.1.lt y hy⟩⟩
  have PQ : Hid (w.heap.size < g ∧ g < v2.heap.size ∧ w0.heap.size ≤ v1.heap.size ∧ v1.heap.size ≤ v2.heap.size ∧ w0.heap.size ≤ g ∧ w.grownBy v1 none) := ⟨by omega, by have := hk.2.size; omega, L1.out.1.2.1.size, hk.2.size, hc1, grown_trans L0.out.1 (grown_of_belowV L1.out.1.2.1)⟩
  clear hk hnw ga lt2 hgv L1 C1 hc1 hq
  simp only []
  go_wp2_with fail
  generalize v2.alloc (.cells #[.int .i64 k, .int .i64 m, .slice a1 l1 c1] 25) = v3 at *
  generalize v2.heap.size = q3 at *
  generalize eq2 : w.heap.size = q2 at *
  refine Calls.mono (belowT w0 v3 g a n cap zs L0.out.2.2 hz hn AL.out.kept.1 5 (by omega) (by omega)) ?_
  rintro e v4 ⟨x, he, hx0, hx1, hk⟩
  subst he
  have AN := AL.out.cur hk (by have := PQ.out; omega) (by have := PQ.out; omega)
  clear AL hk
  have AL : Hid (SbS w0 v1 g a n cap q2 q3 k m a1 l1 c1 f bs v4) := AN
  clear AN
  obtain ⟨xn, rfl⟩ : ∃ xn : Nat, x = (xn : Int) := ⟨x.toNat, by omega⟩
  obtain ⟨i0, hi, hi0, hi1, hi2⟩ := info_parts infoT
  simp only []
  go_wp2
  go_loopw [7, 8] (fun v i wr => ∃ (j : Nat) (P : F) (av : Option Addr) (cv : Nat) (bl : List Nat), j ≤ xn ∧ i = .int .i64 j ∧ v = .slice av j cv ∧ Hid (SbS w0 v1 g a n cap q2 q3 k m a1 l1 c1 f bs wr ∧ SlO wr 25 av j cv P bl ∧ bl.Nodup ∧ (∀ y ∈ bl, q3 < y) ∧ (cv = 0 → av = none))) (fun _ i _ => xn - (intOf i).toNat)
  case atStart => exact ⟨0, .nil, none, 0, [], Nat.zero_le _, rfl, rfl, AL.out, (New.nil v4 v4 25).1, List.nodup_nil, fun y hy => by simp at hy, fun _ => rfl⟩
  case round =>
    clear AL
    obtain ⟨j, P, av, cv, bl, hj, rfl, rfl, LI⟩ := hrel
    by_cases hlt : j < xn
    · have hlt' : (j : Int) < xn := by omega
      have C2 : Hid _ := l3anyT w0 g a n cap zs L0.out.2.2 hz hn wr LI.out.1.kept.1
      go_wp2_with fail
      refine Calls.mono C2.out ?_
      rintro e y1 ⟨k2, m2, f2, a2, l2, c2, bs2, he, hk, hn2⟩
      subst he
      obtain ⟨AL, acc, nd, gt, na⟩ := LI.out
      have hq3 := lt_of_block AL.box
      have LB : Hid (SbS w0 v1 g a n cap q2 q3 k m a1 l1 c1 f bs y1 ∧ SlO y1 25 av j cv P bl ∧ SlO y1 25 a2 l2 c2 f2 bs2 ∧ bl.Nodup ∧ bs2.Nodup ∧ (∀ y ∈ bl, q3 < y) ∧ (∀ y ∈ bs2, q3 < y) ∧ (∀ y ∈ bl, y ∉ bs2) ∧ (cv = 0 → av = none)) := ⟨AL.cur hk (by have := PQ.out; omega) (by have := PQ.out; omega), acc.kept hk.2 (fun y hy => by have := gt y hy; have := PQ.out; simp; omega), hn2.1, nd, hn2.2.1, gt, fun y hy => by have := hn2.2.2 y hy; omega, fun y hy hy2 => by have := acc.lt y hy; have := hn2.2.2 y hy2; omega, na⟩
      clear C2 hk hn2 AL acc nd gt na LI hq3
      have ga := World.grownBy_alloc y1 (.cells #[.int .i64 k2, .int .i64 m2, .slice a2 l2 c2] 25) none
      have bB := three (heap_alloc_new y1 (.cells #[.int .i64 k2, .int .i64 m2, .slice a2 l2 c2] 25))
      have NW : Hid _ := news3 bB.1.1 bB.1.2.1 bB.1.2.2
      have LC : Hid (SbS w0 v1 g a n cap q2 q3 k m a1 l1 c1 f bs (y1.alloc (.cells #[.int .i64 k2, .int .i64 m2, .slice a2 l2 c2] 25)) ∧ SlO (y1.alloc (.cells #[.int .i64 k2, .int .i64 m2, .slice a2 l2 c2] 25)) 25 av j cv P bl ∧ SlO (y1.alloc (.cells #[.int .i64 k2, .int .i64 m2, .slice a2 l2 c2] 25)) 25 a2 l2 c2 f2 bs2 ∧ q3 < (y1.alloc (.cells #[.int .i64 k2, .int .i64 m2, .slice a2 l2 c2] 25)).heap.size) := ⟨LB.out.1.quiet ga, LB.out.2.1.old ga, LB.out.2.2.1.old ga, by have := lt_of_block LB.out.1.box; have := ga.size; omega⟩
      clear ga bB
      simp only []
      go_wp2_with (at_builtin; go_must (refine wpList_pushT rfl _ _ 23 rfl 25 i0 _ Try.underlying23 hi hi0 hi1 hi2 rfl av j cv P bl rfl LC.out.2.1 LB.out.2.2.2.1 LB.out.2.2.2.2.2.2.2.2 (by omega) ⟨y1.heap.size, 0, none⟩ rfl k2 m2 a2 l2 c2 NW.out f2 bs2 LC.out.2.2.1 LB.out.2.2.2.2.1 LB.out.2.2.2.2.2.2.2.1 ?_); intro a3 c3 bs3 y3 h1 h2 h3 h4 h5)
      have LN : Hid (SbS w0 v1 g a n cap q2 q3 k m a1 l1 c1 f bs y3 ∧ SlO y3 25 a3 (j + 1) c3 (P.app (.cons k2 m2 f2 .nil)) bs3 ∧ bs3.Nodup ∧ (∀ y ∈ bs3, q3 < y) ∧ (c3 = 0 → a3 = none)) := ⟨LC.out.1.tn h4 LB.out.2.2.2.2.2.1 (by have := PQ.out; omega) (by have := PQ.out; omega) (by have := PQ.out; omega) (by have := PQ.out; omega), h1, h2, fun y hy => by
        rcases h3 y hy with hy | hy | hy
        · exact LB.out.2.2.2.2.2.1 y hy
        · exact LB.out.2.2.2.2.2.2.1 y hy
        · have := LC.out.2.2.2; omega, fun h => by omega⟩
      clear h1 h2 h3 h4 h5 LB LC NW
      go_roundw
      case rel => exact ⟨j + 1, _, a3, c3, bs3, by omega, by go_num, rfl, LN⟩
      case measure => simp [intOf]; omega
    · obtain rfl : j = xn := by omega
      obtain ⟨AL, acc, nd, gt, na⟩ := LI.out
      have n23 : q2 ≠ q3 := by have := PQ.out; omega
      obtain ⟨⟨y0, y1, y2⟩, -⟩ := three AL.box
      obtain ⟨⟨z0, z1, z2⟩, f0, f1, f2⟩ := three AL.res
      obtain ⟨d1, k1⟩ := fill3 (.int .i64 k) (.int .i64 m) (.slice a1 l1 c1) AL.res
      have gw : w.grownBy wr none := grown_into PQ.out.2.2.2.2.2 AL.kept.2 (by have := PQ.out; omega)
      have FQ : Hid (_ ∧ w.grownBy _ none ∧ New w _ 25 a1 l1 c1 f bs ∧ New w _ 25 av j cv P bl) := ⟨d1, grown_into gw k1 (by omega), ⟨AL.own.kept k1 (fun y hy => by have := (AL.gt y hy).1; have := PQ.out; simp; omega), AL.nd, fun y hy => by have := (AL.gt y hy).1; have := PQ.out; omega⟩, ⟨acc.kept k1 (fun y hy => by have := gt y hy; have := PQ.out; simp; omega), nd, fun y hy => by have := gt y hy; have := PQ.out; omega⟩⟩
      have hdis : ∀ x ∈ bs, x ∉ bl := fun x hx hx2 => by have := (AL.gt x hx).2; have := gt x hx2; omega
      clear d1 k1 gw AL acc nd gt na LI
      go_wp2
      (try simp only [Exit.inBlock, Exit.then])
      refine bodyPost_ret (results_cell2 (P := Try.prog) Try.results8 _ _ q2 _ _ _ _ rfl FQ.out.1 Try.underlying25 rfl (by kernel_rfl)) rfl ?_
      exact ⟨k, m, f, a1, l1, c1, bs, av, j, cv, P, bl, rfl, FQ.out.2.1, FQ.out.2.2.1, FQ.out.2.2.2, by omega, hdis⟩
end Go.Proofs.Ytmlganaiajhjeaa.By
