/-
  The document's draw of a value, by its contract. No statement is proved here.
-/
import Derived.Test.YtpmndefmibnaeaaDoorVD0
import Derived.Deep.DeepCutAuto
import Derived.Deep.CutBlock
import Derived.Deep.RegionHeld
namespace Go.Proofs.YtpmndefmibnaeaaDoor.By
open Go.RowKit
set_option linter.unusedVariables false
set_option linter.unusedSimpArgs false

/-- How great what is drawn may be. -/
def dM : Nat → Nat
  | 0 => 5
  | d + 1 => 5 + 3 * (1 + dM d)
/-- While a value is drawn: the cursor, the two boxes. -/
structure DvS (w0 w : World) (g : Nat) (a : Option Addr) (n cap : Nat) (pr pv : Nat) (c0 c1 c2 c3 : Value) (u : World) : Prop where
  cur : Cur w0 u g a n cap
  gr : w.grownBy u (some g)
  hpr : u.heap[pr]? = some (.cells #[.int .i64 0, .int .i64 0, .slice none 0 0, .slice none 0 0] 31 (0, 0))
  hpv : u.heap[pv]? = some (.cells #[c0, c1, c2, c3] 31 (0, 0))
  lt : w.heap.size ≤ pr ∧ pr < pv ∧ g < w.heap.size ∧ w0.heap.size ≤ w.heap.size
theorem DvS.keep {w0 w u u' : World} {g : Nat} {a : Option Addr} {n cap pr pv : Nat} {c0 c1 c2 c3 : Value} (h : DvS w0 w g a n cap pr pv c0 c1 c2 c3 u) (k : Kept w0 u u' g a n cap) : DvS w0 w g a n cap pr pv c0 c1 c2 c3 u' := by
  have hl := h.lt
  exact ⟨k.1, grown_trans h.gr k.2, (k.2.block pr (lt_of_block h.hpr) (by simp; omega)).trans h.hpr, (k.2.block pv (lt_of_block h.hpv) (by simp; omega)).trans h.hpv, hl⟩
theorem DvS.none {w0 w u u' : World} {g : Nat} {a : Option Addr} {n cap pr pv : Nat} {c0 c1 c2 c3 : Value} (h : DvS w0 w g a n cap pr pv c0 c1 c2 c3 u) (k : u.grownBy u' Option.none) : DvS w0 w g a n cap pr pv c0 c1 c2 c3 u' :=
  ⟨h.cur.none k, grown_trans h.gr (grown_none k _), (k.block pr (lt_of_block h.hpr) (by simp)).trans h.hpr, (k.block pv (lt_of_block h.hpv) (by simp)).trans h.hpv, h.lt⟩
/-- What a row of ours behind the boxes turns. -/
theorem DvS.row {w0 w u u' : World} {g : Nat} {a : Option Addr} {n cap pr pv : Nat} {c0 c1 c2 c3 : Value} {r : Option Nat} (h : DvS w0 w g a n cap pr pv c0 c1 c2 c3 u) (k : u.grownBy u' r) (hr : ∀ b, r = some b → pv < b) : DvS w0 w g a n cap pr pv c0 c1 c2 c3 u' := by
  have hl := h.lt
  refine ⟨h.cur.kept k (fun e => by have := hr g e.symm; omega) (fun b e => by have := hr b e; omega), ⟨k.os.trans h.gr.os, k.tape.trans h.gr.tape, k.output.trans h.gr.output, Nat.le_trans h.gr.size k.size, fun i hi hne => (k.block i (Nat.lt_of_lt_of_le hi h.gr.size) (fun e => by have := hr i e.symm; omega)).trans (h.gr.block i hi hne)⟩, (k.block pr (lt_of_block h.hpr) (fun e => by have := hr pr e.symm; omega)).trans h.hpr, (k.block pv (lt_of_block h.hpv) (fun e => by have := hr pv e.symm; omega)).trans h.hpv, hl⟩
theorem DvS.set {w0 w u : World} {g : Nat} {a : Option Addr} {n cap pr pv : Nat} {c0 c1 c2 c3 : Value} (h : DvS w0 w g a n cap pr pv c0 c1 c2 c3 u) (i : Nat) (v d0 d1 d2 d3 : Value) (e : (#[c0, c1, c2, c3] : Array Value).setIfInBounds i v = #[d0, d1, d2, d3]) : DvS w0 w g a n cap pr pv d0 d1 d2 d3 (u.setCell ⟨pv, i, Option.none⟩ v) := by
  have hl := h.lt
  have k := grown_setCell u pv i v
  have hs := heap_setCell_same u pv i _ _ v h.hpv
  rw [e] at hs
  refine ⟨h.cur.kept k (by simp; omega) (fun b e => by obtain rfl := Option.some.inj e; omega), ⟨k.os.trans h.gr.os, k.tape.trans h.gr.tape, k.output.trans h.gr.output, Nat.le_trans h.gr.size k.size, fun j hj hne => (k.block j (Nat.lt_of_lt_of_le hj h.gr.size) (by simp; omega)).trans (h.gr.block j hj hne)⟩, (k.block pr (lt_of_block h.hpr) (by simp; omega)).trans h.hpr, hs, hl⟩
theorem DvS.fillpr {w0 w u u' : World} {g : Nat} {a : Option Addr} {n cap pr pv : Nat} {c0 c1 c2 c3 : Value} (h : DvS w0 w g a n cap pr pv c0 c1 c2 c3 u) (k : u.grownBy u' (some pr)) : Kept w0 w u' g a n cap := by
  have hl := h.lt
  exact ⟨h.cur.kept k (by simp; omega) (fun b e => by obtain rfl := Option.some.inj e; omega), ⟨k.os.trans h.gr.os, k.tape.trans h.gr.tape, k.output.trans h.gr.output, Nat.le_trans h.gr.size k.size, fun j hj hne => (k.block j (Nat.lt_of_lt_of_le hj h.gr.size) (by simp; omega)).trans (h.gr.block j hj hne)⟩⟩
theorem dM_pos (d j : Nat) (hd : 0 < d) (hj : j ≤ 3) : 5 + j * (1 + dM (d - 1)) ≤ dM d := by
  obtain ⟨e, rfl⟩ : ∃ e, d = e + 1 := ⟨d - 1, by omega⟩
  simp only [Nat.add_sub_cancel, dM]
  have := Nat.mul_le_mul_right (1 + dM e) hj
  omega
theorem Cur.lo {w0 w : World} {g n cap : Nat} {a : Option Addr} (h : Cur w0 w g a n cap) : g < w.heap.size ∧ w0.heap.size ≤ g := ⟨h.lt, h.1⟩

theorem OwS.hidO {B n c lo : Nat} {w : World} {a : Option Addr} {zs : List Int} (h : OwS B w a n c zs) (hl : lo ≤ B) (hz : Byt zs) (hn : n ≤ 9223372036854775807) : RdB (hideO w lo none) a n zs := by
  refine ⟨OwS.reads (B := B) (c := c) ?_, hz, hn⟩
  exact h.of fun g cur hg e => (hideO_heap (Nat.le_trans hl (h.lt g e.symm).1) (by simp) hg).trans hg.symm
theorem OwnV.kept {w u wp : World} {B : Nat} {v : Value} {f : V} {vs : List Value} {row : Option Nat} (h : OwnV w wp B v f vs) (k : w.grownBy u row) (hr : ∀ b, row = some b → b < B) : OwnV u wp B v f vs := by
  refine ⟨h.own.kept k ?_, h.rd⟩
  cases hv : v.ownBlock with
  | none => exact .inl rfl
  | some b =>
    right
    intro e
    have := hr b e.symm
    have := (h.own.lt b hv).1
    omega
theorem OwnV.le {w wp up : World} {B : Nat} {v : Value} {f : V} {vs : List Value} (h : OwnV w wp B v f vs) (k : CLe wp up) : OwnV w up B v f vs := ⟨h.own, VsR.le k _ _ h.rd⟩
theorem wp_appV {w : World} {o : Oper} {ac : Act} {K : Act → World → Prop} {Q : Exit → Act → World → Prop} (s x : Operand) (ho : o.op = .call { callee := .builtin .append, args := #[s, x], argTypes := #[29, 29] })
    (B : Nat) (v : Value) (f : V) (vs : List Value) (lo : Nat) (h : OwnV w (hideO w lo v.ownBlock) B v f vs) (p : Nat) (y : RVal) (a1 : Option Addr) (l1 c1 : Nat) (a2 : Option Addr) (l2 c2 : Nat) (c : Nat)
    (hs : ac.eval s = v) (hx : ac.eval x = .slice (some ⟨p, 0, none⟩) 1 c)
    (hp : w.heap[p]? = some (.cells #[.int .i64 y.k, .int .i64 y.n, .slice a1 l1 c1, .slice a2 l2 c2] 31 (0, 0))) (hl : l1 ≤ c1) (hr : RdVal (hideO w lo v.ownBlock) y a1 l1 a2 l2) (hm : f.len ≤ 1000000) (hB : B ≤ w.heap.size)
    (H : ∀ v' w', OwnV w' (hideO w' lo v'.ownBlock) B v' (f.app (V.cn y .nil)) (vs ++ [.int .i64 y.k, .int .i64 y.n, .slice a1 l1 c1, .slice a2 l2 c2]) → w.grownBy w' v.ownBlock → CLe (hideO w lo v.ownBlock) (hideO w' lo v'.ownBlock) → K (ac.put o.dst v') w') :
    Oper.wp Tryd.prog o ac w K Q := by
  obtain ⟨v', w', hr', h2, h3, h4⟩ := run_appV B v f vs lo h p y a1 l1 c1 a2 l2 c2 c o.type hp hl hr hm hB
  unfold Oper.wp execOp
  simp only [ho, resolve, invoke, builtin, Sem.run_bind, Sem.run_pure, Result.andThen_ok, List.map_toArray, List.map_cons, List.map_nil, hs, hx, hr']
  exact H v' w' h2 h3 h4
theorem okN_app : ∀ (f : V) (x : RVal), okN f → okX x → okN (f.app (V.cn x .nil)) := by
  intro f
  induction f with
  | nil => intro x _ h; exact ⟨h.1, h.2, trivial⟩
  | cons k n t d r _ ih => intro x h hx; exact ⟨h.1, h.2.1, ih x h.2.2 hx⟩





set_option maxRecDepth 8000 in
set_option maxHeartbeats 4000000 in
theorem drawV (w0 : World) (g : Nat) (a : Option Addr) (n cap : Nat) (zs : List Int) (hr : Reads w0 a n zs) (hz : Byt zs) (hn : n ≤ 9223372036854775807) : ∀ (d : Nat), d ≤ 3 → ∀ (w : World) (lo : Nat), Cur w0 w g a n cap → g < lo → lo ≤ w.heap.size →
    Calls Tryd.prog 28 #[.pointer (some ⟨g, 0, none⟩), .int .i64 d] w fun e u => ∃ (x : RVal) (a1 : Option Addr) (l1 c1 : Nat) (a2 : Option Addr) (l2 c2 : Nat), e = .returned (.agg #[.int .i64 x.k, .int .i64 x.n, .slice a1 l1 c1, .slice a2 l2 c2]) ∧ Kept w0 w u g a n cap ∧ RdVal (hideZ u lo) x a1 l1 a2 l2 ∧ l1 ≤ c1 ∧ okX x ∧ szVal x ≤ dM d := by
  intro d
  induction d using Nat.strongRecOn with
  | _ d ih =>
  intro hd w lo hc hg hlo
  have IH : Hid _ := ih
  have HB : Hid (∀ (u : World) (m : Int), Cur w0 u g a n cap → 0 < m → m ≤ 9223372036854775807 → _) := fun u m hu h1 h2 => belowT w0 u g a n cap zs hr hz hn hu m h1 h2
  have HO : Hid (∀ (u : World) (m : Int), Cur w0 u g a n cap → 0 < m → m ≤ 9223372036854775807 → _) := fun u m hu h1 h2 => onceT w0 u g a n cap zs hr hz hn hu m h1 h2
  have HP : Hid (∀ (u : World) (l : List Int), Cur w0 u g a n cap → 0 < l.length → l.length ≤ 1000 → (∀ x ∈ l, I64 x) → _) := fun u l hu h0 h1 h2 => pickNew w0 u g a n cap zs hr hz hn hu l h0 h1 h2
  have HS : Hid (∀ (u : World), Cur w0 u g a n cap → _) := fun u hu => signedT w0 u g a n cap zs hr hz hn hu
  have HM : Hid (∀ (u : World) (m : Int), Cur w0 u g a n cap → 0 ≤ m → m ≤ 100 → _) := fun u m hu h0 h1 => someT w0 u g a n cap zs hr hz hn hu m h0 h1
  clear ih hr hz
  have hgw := hc.lo
  have g0 := World.grownBy_alloc w (.cells #[.int .i64 0, .int .i64 0, .slice none 0 0, .slice none 0 0] 31) none
  have b0 := heap_alloc_new w (.cells #[.int .i64 0, .int .i64 0, .slice none 0 0, .slice none 0 0] 31)
  have C1 : Hid _ := HB.out (w.alloc (.cells #[.int .i64 0, .int .i64 0, .slice none 0 0, .slice none 0 0] 31)) 7 (hc.none g0) (by omega) (by omega)
  have G0 : Hid _ := And.intro g0 b0
  clear g0 b0
  go_enter Tryd.func28, Tryd.ntmps28
  go_wp2_with fail
  refine Calls.mono C1.out ?_
  rintro e u1 ⟨k1, rfl, hk0, hk7, hk⟩
  have C2 : Hid _ := HB.out u1 5 hk.1 (by omega) (by omega)
  have G1 : Hid (w.grownBy u1 (some g) ∧ u1.heap[w.heap.size]? = some (.cells #[.int .i64 0, .int .i64 0, .slice none 0 0, .slice none 0 0] 31 (0, 0))) := ⟨grown_trans (grown_none G0.out.1 _) hk.2, (hk.2.block _ (lt_of_block G0.out.2) (by simp; omega)).trans G0.out.2⟩
  clear C1 G0 hk
  simp only []
  go_wp2_with fail
  refine Calls.mono C2.out ?_
  rintro e u2 ⟨n1, rfl, hn0, hn5, hk⟩
  have ga := World.grownBy_alloc u2 (.cells #[.int .i64 k1, .int .i64 n1, .slice none 0 0, .slice none 0 0] 31) none
  have ba := heap_alloc_new u2 (.cells #[.int .i64 k1, .int .i64 n1, .slice none 0 0, .slice none 0 0] 31)
  have hp2 := (hk.2.block _ (lt_of_block G1.out.2) (by simp; omega)).trans G1.out.2
  have S1 : Hid (DvS w0 w g a n cap w.heap.size u2.heap.size (.int .i64 k1) (.int .i64 n1) (.slice none 0 0) (.slice none 0 0) (u2.alloc (.cells #[.int .i64 k1, .int .i64 n1, .slice none 0 0, .slice none 0 0] 31))) :=
    ⟨hk.1.none ga, grown_trans (grown_trans G1.out.1 hk.2) (grown_none ga _), (ga.block _ (lt_of_block hp2) (by simp)).trans hp2, ba, ⟨Nat.le_refl _, lt_of_block hp2, hgw.1, Nat.le_trans hgw.2 (Nat.le_of_lt hgw.1)⟩⟩
  have C3 : Hid _ := HO.out _ 20 S1.out.cur (by omega) (by omega)
  clear C2 G1 hk ga ba hp2
  simp only []
  go_wp2_with fail
  generalize u2.alloc (.cells #[.int .i64 k1, .int .i64 n1, .slice none 0 0, .slice none 0 0] 31) = u3 at *
  generalize u2.heap.size = pv at *
  generalize w.heap.size = pr at *
  refine Calls.mono C3.out ?_
  rintro e u4 ⟨t20, rfl, hk⟩
  have S2 : Hid _ := S1.out.keep hk
  clear C3 S1 hk
  simp only []
  go_upto_if 14 with fail
  go_cut [15] (fun s wx => ∃ k2 n2, Hid ((-9223372036854775808 ≤ n2 ∧ n2 ≤ 9223372036854775807) ∧ DvS w0 w g a n cap pr pv (.int .i64 k2) (.int .i64 n2) (.slice none 0 0) (.slice none 0 0) wx))
  case first =>
    cases t20 with
    | false =>
      go_wp2
      go_meet
      case rel => exact ⟨k1, n1, ⟨by omega, by omega⟩, S2.out⟩
    | true =>
      have C4 : Hid _ := HP.out u4 [-1, 7, 9] S2.out.cur (by decide) (by decide) (fun x hx => by simp at hx; unfold I64; rcases hx with rfl | rfl | rfl <;> omega)
      go_wp2_with fail
      refine Calls.mono C4.out ?_
      rintro e u5 ⟨k2, rfl, -, hk⟩
      have S3 : Hid _ := S2.out.keep hk
      have S4 : Hid _ := S3.out.set 0 (.int .i64 k2) (.int .i64 k2) (.int .i64 n1) (.slice none 0 0) (.slice none 0 0) rfl
      have C5 : Hid _ := HS.out _ S4.out.cur
      obtain ⟨⟨z0, z1, z2, z3⟩, hfz⟩ := blkVal S3.out.hpv
      have fz0 := hfz 0
      clear C4 hk hfz S2
      simp only []
      go_wp2_with fail
      clear z0 z1 z2 z3 fz0
      refine Calls.mono C5.out ?_
      rintro e u6 ⟨n2, rfl, hn2, hk⟩
      have S5 : Hid _ := S4.out.keep hk
      have S6 : Hid _ := S5.out.set 1 (.int .i64 n2) (.int .i64 k2) (.int .i64 n2) (.slice none 0 0) (.slice none 0 0) rfl
      obtain ⟨⟨z0, z1, z2, z3⟩, hfz⟩ := blkVal S5.out.hpv
      have fz1 := hfz 1
      clear C5 hk hfz S3 S4
      simp only []
      go_wp2
      go_meet
      case rel => exact ⟨k2, n2, hn2, S6.out⟩
  case rest =>
  obtain ⟨k2, n2, HC⟩ := hcut
  clear S2
  obtain ⟨⟨z0, z1, z2, z3⟩, -⟩ := blkVal HC.out.2.hpv
  go_upto_if 24 with fail
  go_cut [25] (fun s wx => ∃ ta tl tc ys, Hid (RdB (hideO wx (pv + 1) none) ta tl ys ∧ tl ≤ tc ∧ ys.length ≤ 5 ∧ DvS w0 w g a n cap pr pv (.int .i64 k2) (.int .i64 n2) (.slice ta tl tc) (.slice none 0 0) wx))
  case first =>
    by_cases hk2 : k2 = 2
    · have hk2' : (k2 == 2) = true := by simpa using hk2
      clear hk2
      have C6 : Hid _ := HM.out wc 5 HC.out.2.cur (by omega) (by omega)
      clear z0 z1 z2 z3
      go_wp2_with fail
      refine Calls.mono C6.out ?_
      rintro e u5 ⟨v5, ys, rfl, hys, hmi, hk⟩
      obtain ⟨-, ta, tc, rfl, ho⟩ := ownsS hmi.1
      have S3 : Hid _ := HC.out.2.keep hk
      have S4 : Hid _ := S3.out.set 2 (.slice ta ys.length tc) (.int .i64 k2) (.int .i64 n2) (.slice ta ys.length tc) (.slice none 0 0) rfl
      have htc : ys.length ≤ tc := by
        rcases ho.1.2 with ⟨e, h0⟩ | ⟨g9, cap9, cur9, e, _, _, hn9, -⟩
        · injection e with e1 e2 e3; omega
        · injection e with e1 e2 e3; omega
      have R5 := ho.hidO (lo := pv + 1) (lt_of_block HC.out.2.hpv) hmi.2 (by omega)
      have FF : Hid (RdB (hideO (u5.setCell ⟨pv, 2, none⟩ (.slice ta ys.length tc)) (pv + 1) none) ta ys.length ys ∧ ys.length ≤ tc ∧ ys.length ≤ 5 ∧ DvS w0 w g a n cap pr pv (.int .i64 k2) (.int .i64 n2) (.slice ta ys.length tc) (.slice none 0 0) (u5.setCell ⟨pv, 2, none⟩ (.slice ta ys.length tc))) :=
        ⟨R5.le (hidO_grown (grown_setCell u5 pv 2 _) (fun b e => .inl (by obtain rfl := Option.some.inj e; omega))), htc, by omega, S4.out⟩
      obtain ⟨⟨z0, z1, z2, z3⟩, hfz⟩ := blkVal S3.out.hpv
      have fz2 := hfz 2
      clear C6 hmi hk ho R5 S3 S4 HC hfz
      simp only []
      go_wp2
      go_meet
      case rel => exact ⟨ta, ys.length, tc, ys, FF⟩
    · have hk2' : (k2 == 2) = false := by simpa using hk2
      clear hk2
      go_wp2
      go_meet
      case rel => exact ⟨none, 0, 0, [], ⟨⟨rfl, .inl rfl⟩, fun z hz => by simp at hz, by omega⟩, by omega, by simp, HC.out.2⟩
  case rest =>
  obtain ⟨ta, tl, tc, ys, HD⟩ := hcut
  have HN := HC.out.1
  clear z0 z1 z2 z3 HC
  rename_i wd
  have C7 : Hid _ := HB.out _ 4 HD.out.2.2.2.cur (by omega) (by omega)
  go_wp2_with fail
  refine Calls.mono C7.out ?_
  rintro e u7 ⟨m, rfl, hm0, hm4, hk⟩
  have HE : Hid (RdB (hideO u7 (pv + 1) none) ta tl ys ∧ tl ≤ tc ∧ ys.length ≤ 5 ∧ DvS w0 w g a n cap pr pv (.int .i64 k2) (.int .i64 n2) (.slice ta tl tc) (.slice none 0 0) u7) :=
    ⟨HD.out.1.le (hidO_grown hk.2 (fun b e => .inl (by obtain rfl := Option.some.inj e; have := HD.out.2.2.2.lt; omega))), HD.out.2.1, HD.out.2.2.1, HD.out.2.2.2.keep hk⟩
  clear C7 HD hk
  simp only []
  have hDw : 0 < d → IntKind.i64.wrap (((d : Nat) : Int) - 1) = ((d - 1 : Nat) : Int) := fun h => by rw [IntWalk.i64_in _ ⟨by omega, by omega⟩]; omega
  go_wp2
  go_loopw [7] (fun i wr => ∃ (j : Nat) (f : V) (vs : List Value) (lv : Value), (j : Int) ≤ m ∧ i = .int .i64 j ∧ f.len = j ∧ f.size ≤ j * (1 + dM (d - 1)) ∧ (0 < j → 0 < d) ∧ Hid (okN f ∧ DvS w0 w g a n cap pr pv (.int .i64 k2) (.int .i64 n2) (.slice ta tl tc) lv wr ∧ RdB (hideO wr (pv + 1) lv.ownBlock) ta tl ys ∧ OwnV wr (hideO wr (pv + 1) lv.ownBlock) (pv + 1) lv f vs)) (fun i _ => 4 - (intOf i).toNat)
  case atStart => exact ⟨0, .nil, [], .slice none 0 0, by omega, rfl, rfl, by simp [V.size], fun h => absurd h (by omega), trivial, HE.out.2.2.2, HE.out.1, ⟨World.ownsRow_nil _ _ _ _, rfl⟩⟩
  case round =>
    have HX : Hid (tl ≤ tc ∧ ys.length ≤ 5) := ⟨HE.out.2.1, HE.out.2.2.1⟩
    clear HE
    obtain ⟨j, f, vs, lv, hj, rfl, hfl, hfs, hjd, HL⟩ := hrel
    obtain ⟨la, lk, rfl, hlk, hln⟩ := HL.out.2.2.2.slice
    have HFL : Hid (f.len = j) := hfl
    clear hfl
    have hj3 : j ≤ 3 := by omega
    by_cases hgo : (j : Int) < m ∧ 0 < d
    · have hjm := hgo.1
      have hd0 : (0 : Int) < (d : Int) := by omega
      have hw1 := hDw hgo.2
      obtain ⟨z0, z1, z2, z3⟩ := (blkVal HL.out.2.1.hpv).1
      go_upto_region 11 with fail
      have gd := grown_drew (World.grownBy.refl wr none)
      have cd : CLe (hideO wr (pv + 1) (Value.slice la f.len lk).ownBlock) (hideO wr.drew (pv + 1) (Value.slice la f.len lk).ownBlock) := hidO_grown gd (fun b e => by cases e)
      have AD : Hid (okN f ∧ DvS w0 w g a n cap pr pv (.int .i64 k2) (.int .i64 n2) (.slice ta tl tc) (.slice la f.len lk) wr.drew ∧ RdB (hideO wr.drew (pv + 1) (Value.slice la f.len lk).ownBlock) ta tl ys ∧ OwnV wr.drew (hideO wr.drew (pv + 1) (Value.slice la f.len lk).ownBlock) (pv + 1) (.slice la f.len lk) f vs) :=
        ⟨HL.out.1, HL.out.2.1.none gd, HL.out.2.2.1.le cd, (HL.out.2.2.2.kept gd (fun b e => by cases e)).le cd⟩
      clear HL gd cd z0 z1 z2 z3
      refine wp_region_held_drew (S := (fun u => u.cell? ⟨pv, 0, none⟩ = some (.int .i64 k2) ∧ u.cell? ⟨pv, 1, none⟩ = some (.int .i64 n2) ∧ u.cell? ⟨pv, 2, none⟩ = some (.slice ta tl tc))) (by kernel_rfl) ⟨(blkVal AD.out.2.1.hpv).1.1, (blkVal AD.out.2.1.hpv).1.2.1, (blkVal AD.out.2.1.hpv).1.2.2.1⟩ (fun hH => ?_)
      generalize wr.drew = u at *
      simp only [List.size_toArray, List.length_cons, List.length_nil, Nat.reduceAdd, Array.replicate, List.replicate]
      refine wpAnyH_take (i := 0) (v := ?_) rfl (by kernel_rfl) (by kernel_rfl) (by kernel_rfl) (fun _ _ _ h => h) (Or.inl ⟨by rfl, ?_⟩) hH ?_
      rotate_left
      · (intro v hS; obtain ⟨s0, s1, s2⟩ := hS; go_simp; try with_reducible rfl)
      simp only [Act.put, List.setIfInBounds_toArray, List.set_cons_zero, List.set_cons_succ, List.getElem_toArray, List.getElem_cons_succ, List.getElem_cons_zero]
      refine wpAnyH_take (i := 2) (v := ?_) rfl (by kernel_rfl) (by kernel_rfl) (by kernel_rfl) (fun _ _ _ h => h) (Or.inl ⟨by rfl, ?_⟩) hH ?_
      rotate_left
      · (intro v hS; obtain ⟨s0, s1, s2⟩ := hS; go_simp; try with_reducible rfl)
      simp only [Act.put, List.setIfInBounds_toArray, List.set_cons_zero, List.set_cons_succ, List.getElem_toArray, List.getElem_cons_succ, List.getElem_cons_zero]
      refine wpAnyH_take (i := 3) (v := ?_) rfl (by kernel_rfl) (by kernel_rfl) (by kernel_rfl) (fun _ _ _ h => h) (Or.inl ⟨by rfl, ?_⟩) hH ?_
      rotate_left
      · (intro v hS; obtain ⟨s0, s1, s2⟩ := hS; go_simp; try with_reducible rfl)
      simp only [Act.put, List.setIfInBounds_toArray, List.set_cons_zero, List.set_cons_succ, List.getElem_toArray, List.getElem_cons_succ, List.getElem_cons_zero]
      refine wpAnyH_take (i := 4) (v := ?_) rfl (by kernel_rfl) (by kernel_rfl) (by kernel_rfl) (fun _ _ _ h => h) (Or.inl ⟨by rfl, ?_⟩) hH ?_
      rotate_left
      · (intro v hS; obtain ⟨s0, s1, s2⟩ := hS; go_simp; try with_reducible rfl)
      simp only [Act.put, List.setIfInBounds_toArray, List.set_cons_zero, List.set_cons_succ, List.getElem_toArray, List.getElem_cons_succ, List.getElem_cons_zero]
      have hgu := AD.out.2.1.cur.lo
      have hpu := lt_of_block AD.out.2.1.hpv
      have CI : Hid _ := IH.out (d - 1) (by omega) (by omega) u u.heap.size AD.out.2.1.cur hgu.1 (Nat.le_refl _)
      have z3 := (blkVal AD.out.2.1.hpv).1.2.2.2
      refine wpAnyH_ready (rs := [1, 5]) (by kernel_rfl) (by simp) ?_
      refine AllReadyH.cons rfl (fun K hK => ?_) ?_
      · skip
        go_simp
        refine hK.out _ _ ⟨(blkVal AD.out.2.1.hpv).1.1, (blkVal AD.out.2.1.hpv).1.2.1, (blkVal AD.out.2.1.hpv).1.2.2.1⟩ (fun hH2 => ?_)
        clear hK K hH
        have hH := hH2
        clear hH2
        simp only [Act.put, List.setIfInBounds_toArray, List.set_cons_zero, List.set_cons_succ, List.getElem_toArray, List.getElem_cons_succ, List.getElem_cons_zero]
        clear z3
        refine wpAnyH_ready (rs := [5]) (by kernel_rfl) (by simp) ?_
        refine AllReadyH.cons rfl (fun K hK => ?_) AllReadyH.nil
        go_simp
        refine Calls.mono CI.out ?_
        rintro e z ⟨y, b1, m1, e1, b2, m2, e2, he, hk, hry, hle, hy, hys⟩
        subst he
        have hrow : ∀ b, (Value.slice la f.len lk).ownBlock = some b → pv < b ∧ b < u.heap.size := fun b hb => by have := AD.out.2.2.2.own.lt b hb; omega
        have ck : CLe (hideO u (pv + 1) (Value.slice la f.len lk).ownBlock) (hideO z (pv + 1) (Value.slice la f.len lk).ownBlock) := hidO_grown hk.2 (fun b e => .inl (by obtain rfl := Option.some.inj e; have := AD.out.2.1.lt; omega))
        have AN : Hid (okN f ∧ DvS w0 w g a n cap pr pv (.int .i64 k2) (.int .i64 n2) (.slice ta tl tc) (.slice la f.len lk) z ∧ RdB (hideO z (pv + 1) (Value.slice la f.len lk).ownBlock) ta tl ys ∧ OwnV z (hideO z (pv + 1) (Value.slice la f.len lk).ownBlock) (pv + 1) (.slice la f.len lk) f vs ∧ RdVal (hideO z (pv + 1) (Value.slice la f.len lk).ownBlock) y b1 m1 b2 m2) :=
          ⟨AD.out.1, AD.out.2.1.keep hk, AD.out.2.2.1.le ck, (AD.out.2.2.2.kept hk.2 (fun b e => by obtain rfl := Option.some.inj e; have := AD.out.2.1.lt; omega)).le ck, hry.le (CLe.hidZO (by omega) (fun i h1 h2 => ⟨rfl, fun e => by have := hrow i e.symm; omega⟩))⟩
        have hpz := lt_of_block AN.out.2.1.hpv
        have hrow : ∀ b, (Value.slice la f.len lk).ownBlock = some b → pv < b := fun b hb => (hrow b hb).1
        clear AD hk hry ck CI hgu hpu
        refine hK.out _ _ ⟨(blkVal AN.out.2.1.hpv).1.1, (blkVal AN.out.2.1.hpv).1.2.1, (blkVal AN.out.2.1.hpv).1.2.2.1⟩ (fun hH2 => ?_)
        clear hK K hH
        have hH := hH2
        clear hH2
        simp only [Act.put, List.setIfInBounds_toArray, List.set_cons_zero, List.set_cons_succ, List.getElem_toArray, List.getElem_cons_succ, List.getElem_cons_zero]
        refine wpAnyH_ready (rs := [6]) (by kernel_rfl) (by simp) ?_
        refine AllReadyH.cons rfl (fun K hK => ?_) AllReadyH.nil
        go_simp
        have ga := World.grownBy_alloc z (.cells #[.int .i64 y.k, .int .i64 y.n, .slice b1 m1 e1, .slice b2 m2 e2] 31) none
        have ba := heap_alloc_new z (.cells #[.int .i64 y.k, .int .i64 y.n, .slice b1 m1 e1, .slice b2 m2 e2] 31)
        have ca : CLe (hideO z (pv + 1) (Value.slice la f.len lk).ownBlock) (hideO (z.alloc (.cells #[.int .i64 y.k, .int .i64 y.n, .slice b1 m1 e1, .slice b2 m2 e2] 31)) (pv + 1) (Value.slice la f.len lk).ownBlock) := hidO_grown ga (fun b e => by cases e)
        have AM : Hid (okN f ∧ DvS w0 w g a n cap pr pv (.int .i64 k2) (.int .i64 n2) (.slice ta tl tc) (.slice la f.len lk) (z.alloc (.cells #[.int .i64 y.k, .int .i64 y.n, .slice b1 m1 e1, .slice b2 m2 e2] 31)) ∧ RdB (hideO (z.alloc (.cells #[.int .i64 y.k, .int .i64 y.n, .slice b1 m1 e1, .slice b2 m2 e2] 31)) (pv + 1) (Value.slice la f.len lk).ownBlock) ta tl ys ∧ OwnV (z.alloc (.cells #[.int .i64 y.k, .int .i64 y.n, .slice b1 m1 e1, .slice b2 m2 e2] 31)) (hideO (z.alloc (.cells #[.int .i64 y.k, .int .i64 y.n, .slice b1 m1 e1, .slice b2 m2 e2] 31)) (pv + 1) (Value.slice la f.len lk).ownBlock) (pv + 1) (.slice la f.len lk) f vs ∧ RdVal (hideO (z.alloc (.cells #[.int .i64 y.k, .int .i64 y.n, .slice b1 m1 e1, .slice b2 m2 e2] 31)) (pv + 1) (Value.slice la f.len lk).ownBlock) y b1 m1 b2 m2 ∧ (z.alloc (.cells #[.int .i64 y.k, .int .i64 y.n, .slice b1 m1 e1, .slice b2 m2 e2] 31)).heap[z.heap.size]? = some (.cells #[.int .i64 y.k, .int .i64 y.n, .slice b1 m1 e1, .slice b2 m2 e2] 31 (0, 0))) :=
          ⟨AN.out.1, AN.out.2.1.none ga, AN.out.2.2.1.le ca, (AN.out.2.2.2.1.kept ga (fun b e => by cases e)).le ca, AN.out.2.2.2.2.le ca, ba⟩
        clear AN ga ba ca
        generalize z.alloc (.cells #[.int .i64 y.k, .int .i64 y.n, .slice b1 m1 e1, .slice b2 m2 e2] 31) = z9 at *
        generalize z.heap.size = p at *
        refine hK.out _ _ ⟨(blkVal AM.out.2.1.hpv).1.1, (blkVal AM.out.2.1.hpv).1.2.1, (blkVal AM.out.2.1.hpv).1.2.2.1⟩ (fun hH2 => ?_)
        clear hK K hH
        have hH := hH2
        clear hH2
        simp only [Act.put, List.setIfInBounds_toArray, List.set_cons_zero, List.set_cons_succ, List.getElem_toArray, List.getElem_cons_succ, List.getElem_cons_zero]
        refine wpAnyH_ready (rs := [7]) (by kernel_rfl) (by simp) ?_
        refine AllReadyH.cons rfl (fun K hK => ?_) AllReadyH.nil
        refine step_of rfl (wp_appV _ _ rfl (pv + 1) (.slice la f.len lk) f vs (pv + 1) AM.out.2.2.2.1 p y b1 m1 e1 b2 m2 e2 1 rfl rfl AM.out.2.2.2.2.2 hle AM.out.2.2.2.2.1 (by have := HFL.out; omega) (lt_of_block AM.out.2.1.hpv) ?_)
        intro v9 w9 hO hg9 hcl9
        obtain ⟨la9, lk9, rfl, -, -⟩ := hO.slice
        have AQ : Hid (okN (f.app (V.cn y .nil)) ∧ DvS w0 w g a n cap pr pv (.int .i64 k2) (.int .i64 n2) (.slice ta tl tc) (.slice la f.len lk) w9 ∧ RdB (hideO w9 (pv + 1) (Value.slice la9 (f.app (V.cn y .nil)).len lk9).ownBlock) ta tl ys ∧ OwnV w9 (hideO w9 (pv + 1) (Value.slice la9 (f.app (V.cn y .nil)).len lk9).ownBlock) (pv + 1) (.slice la9 (f.app (V.cn y .nil)).len lk9) (f.app (V.cn y .nil)) _) :=
          ⟨okN_app f y AM.out.1 hy, AM.out.2.1.row hg9 hrow, AM.out.2.2.1.le hcl9, hO⟩
        have hfl2 : (f.app (V.cn y .nil)).len = j + 1 := by rw [V.app_len, HFL.out]; rfl
        have hfs2 : (f.app (V.cn y .nil)).size ≤ (j + 1) * (1 + dM (d - 1)) := by
          rw [V.app_size, V.size_cn, Nat.add_mul, Nat.one_mul]
          simp only [V.size]
          omega
        have HF2 : Hid ((f.app (V.cn y .nil)).len = j + 1) := hfl2
        clear AM hO hg9 hcl9 HFL hfs hrow hfl2
        generalize f.app (V.cn y .nil) = f2 at *
        generalize vs ++ [.int .i64 y.k, .int .i64 y.n, .slice b1 m1 e1, .slice b2 m2 e2] = vs2 at *
        refine hK.out _ _ ⟨(blkVal AQ.out.2.1.hpv).1.1, (blkVal AQ.out.2.1.hpv).1.2.1, (blkVal AQ.out.2.1.hpv).1.2.2.1⟩ (fun hH2 => ?_)
        clear hK K hH
        have hH := hH2
        clear hH2
        simp only [Act.put, List.setIfInBounds_toArray, List.set_cons_zero, List.set_cons_succ, List.getElem_toArray, List.getElem_cons_succ, List.getElem_cons_zero]
        refine wpAnyH_take (i := 8) (v := ?_) rfl (by kernel_rfl) (by kernel_rfl) (by kernel_rfl) (fun _ _ _ h => h) (Or.inl ⟨by rfl, ?_⟩) hH ?_
        rotate_left
        · (intro v hS; go_simp; try with_reducible rfl)
        simp only [Act.put, List.setIfInBounds_toArray, List.set_cons_zero, List.set_cons_succ, List.getElem_toArray, List.getElem_cons_succ, List.getElem_cons_zero]
        have z3 := (blkVal AQ.out.2.1.hpv).1.2.2.2
        have fz3 := (blkVal AQ.out.2.1.hpv).2 3
        have cs : CLe (hideO w9 (pv + 1) (Value.slice la9 f2.len lk9).ownBlock) (hideO (w9.setCell ⟨pv, 3, none⟩ (.slice la9 f2.len lk9)) (pv + 1) (Value.slice la9 f2.len lk9).ownBlock) := hidO_grown (grown_setCell w9 pv 3 _) (fun b e => .inl (by obtain rfl := Option.some.inj e; omega))
        have AR : Hid (okN f2 ∧ DvS w0 w g a n cap pr pv (.int .i64 k2) (.int .i64 n2) (.slice ta tl tc) (.slice la9 f2.len lk9) (w9.setCell ⟨pv, 3, none⟩ (.slice la9 f2.len lk9)) ∧ RdB (hideO (w9.setCell ⟨pv, 3, none⟩ (.slice la9 f2.len lk9)) (pv + 1) (Value.slice la9 f2.len lk9).ownBlock) ta tl ys ∧ OwnV (w9.setCell ⟨pv, 3, none⟩ (.slice la9 f2.len lk9)) (hideO (w9.setCell ⟨pv, 3, none⟩ (.slice la9 f2.len lk9)) (pv + 1) (Value.slice la9 f2.len lk9).ownBlock) (pv + 1) (.slice la9 f2.len lk9) f2 vs2) :=
          ⟨AQ.out.1, AQ.out.2.1.set 3 (.slice la9 f2.len lk9) (.int .i64 k2) (.int .i64 n2) (.slice ta tl tc) (.slice la9 f2.len lk9) rfl, AQ.out.2.2.1.le cs, (AQ.out.2.2.2.kept (grown_setCell w9 pv 3 _) (fun b e => by obtain rfl := Option.some.inj e; omega)).le cs⟩
        clear AQ cs
        refine wpAnyH_ready (rs := [9]) (by kernel_rfl) (by simp) ?_
        refine AllReadyH.cons rfl (fun K hK => ?_) AllReadyH.nil
        go_simp
        refine hK.out _ _ ⟨(blkVal AR.out.2.1.hpv).1.1, (blkVal AR.out.2.1.hpv).1.2.1, (blkVal AR.out.2.1.hpv).1.2.2.1⟩ (fun hH2 => ?_)
        clear hK K hH hH2 z3 fz3
        simp only [Act.put, List.setIfInBounds_toArray, List.set_cons_zero, List.set_cons_succ, List.getElem_toArray, List.getElem_cons_succ, List.getElem_cons_zero]
        refine wpAnyH_done (by kernel_rfl) ?_ _
        go_wp2
        go_roundw
        case rel => exact ⟨j + 1, f2, vs2, _, by omega, by go_num, HF2.out, hfs2, fun _ => hgo.2, AR⟩
        case measure => simp [intOf]; omega
      refine AllReadyH.cons rfl (fun K hK => ?_) AllReadyH.nil
      · skip
        go_simp
        clear z3
        refine Calls.mono CI.out ?_
        rintro e z ⟨y, b1, m1, e1, b2, m2, e2, he, hk, hry, hle, hy, hys⟩
        subst he
        have hrow : ∀ b, (Value.slice la f.len lk).ownBlock = some b → pv < b ∧ b < u.heap.size := fun b hb => by have := AD.out.2.2.2.own.lt b hb; omega
        have ck : CLe (hideO u (pv + 1) (Value.slice la f.len lk).ownBlock) (hideO z (pv + 1) (Value.slice la f.len lk).ownBlock) := hidO_grown hk.2 (fun b e => .inl (by obtain rfl := Option.some.inj e; have := AD.out.2.1.lt; omega))
        have AN : Hid (okN f ∧ DvS w0 w g a n cap pr pv (.int .i64 k2) (.int .i64 n2) (.slice ta tl tc) (.slice la f.len lk) z ∧ RdB (hideO z (pv + 1) (Value.slice la f.len lk).ownBlock) ta tl ys ∧ OwnV z (hideO z (pv + 1) (Value.slice la f.len lk).ownBlock) (pv + 1) (.slice la f.len lk) f vs ∧ RdVal (hideO z (pv + 1) (Value.slice la f.len lk).ownBlock) y b1 m1 b2 m2) :=
          ⟨AD.out.1, AD.out.2.1.keep hk, AD.out.2.2.1.le ck, (AD.out.2.2.2.kept hk.2 (fun b e => by obtain rfl := Option.some.inj e; have := AD.out.2.1.lt; omega)).le ck, hry.le (CLe.hidZO (by omega) (fun i h1 h2 => ⟨rfl, fun e => by have := hrow i e.symm; omega⟩))⟩
        have hpz := lt_of_block AN.out.2.1.hpv
        have hrow : ∀ b, (Value.slice la f.len lk).ownBlock = some b → pv < b := fun b hb => (hrow b hb).1
        clear AD hk hry ck CI hgu hpu
        refine hK.out _ _ ⟨(blkVal AN.out.2.1.hpv).1.1, (blkVal AN.out.2.1.hpv).1.2.1, (blkVal AN.out.2.1.hpv).1.2.2.1⟩ (fun hH2 => ?_)
        clear hK K hH
        have hH := hH2
        clear hH2
        simp only [Act.put, List.setIfInBounds_toArray, List.set_cons_zero, List.set_cons_succ, List.getElem_toArray, List.getElem_cons_succ, List.getElem_cons_zero]
        have z3 := (blkVal AN.out.2.1.hpv).1.2.2.2
        refine wpAnyH_ready (rs := [1, 6]) (by kernel_rfl) (by simp) ?_
        refine AllReadyH.cons rfl (fun K hK => ?_) ?_
        · skip
          go_simp
          refine hK.out _ _ ⟨(blkVal AN.out.2.1.hpv).1.1, (blkVal AN.out.2.1.hpv).1.2.1, (blkVal AN.out.2.1.hpv).1.2.2.1⟩ (fun hH2 => ?_)
          clear hK K hH
          have hH := hH2
          clear hH2
          simp only [Act.put, List.setIfInBounds_toArray, List.set_cons_zero, List.set_cons_succ, List.getElem_toArray, List.getElem_cons_succ, List.getElem_cons_zero]
          clear z3
          refine wpAnyH_ready (rs := [6]) (by kernel_rfl) (by simp) ?_
          refine AllReadyH.cons rfl (fun K hK => ?_) AllReadyH.nil
          go_simp
          have ga := World.grownBy_alloc z (.cells #[.int .i64 y.k, .int .i64 y.n, .slice b1 m1 e1, .slice b2 m2 e2] 31) none
          have ba := heap_alloc_new z (.cells #[.int .i64 y.k, .int .i64 y.n, .slice b1 m1 e1, .slice b2 m2 e2] 31)
          have ca : CLe (hideO z (pv + 1) (Value.slice la f.len lk).ownBlock) (hideO (z.alloc (.cells #[.int .i64 y.k, .int .i64 y.n, .slice b1 m1 e1, .slice b2 m2 e2] 31)) (pv + 1) (Value.slice la f.len lk).ownBlock) := hidO_grown ga (fun b e => by cases e)
          have AM : Hid (okN f ∧ DvS w0 w g a n cap pr pv (.int .i64 k2) (.int .i64 n2) (.slice ta tl tc) (.slice la f.len lk) (z.alloc (.cells #[.int .i64 y.k, .int .i64 y.n, .slice b1 m1 e1, .slice b2 m2 e2] 31)) ∧ RdB (hideO (z.alloc (.cells #[.int .i64 y.k, .int .i64 y.n, .slice b1 m1 e1, .slice b2 m2 e2] 31)) (pv + 1) (Value.slice la f.len lk).ownBlock) ta tl ys ∧ OwnV (z.alloc (.cells #[.int .i64 y.k, .int .i64 y.n, .slice b1 m1 e1, .slice b2 m2 e2] 31)) (hideO (z.alloc (.cells #[.int .i64 y.k, .int .i64 y.n, .slice b1 m1 e1, .slice b2 m2 e2] 31)) (pv + 1) (Value.slice la f.len lk).ownBlock) (pv + 1) (.slice la f.len lk) f vs ∧ RdVal (hideO (z.alloc (.cells #[.int .i64 y.k, .int .i64 y.n, .slice b1 m1 e1, .slice b2 m2 e2] 31)) (pv + 1) (Value.slice la f.len lk).ownBlock) y b1 m1 b2 m2 ∧ (z.alloc (.cells #[.int .i64 y.k, .int .i64 y.n, .slice b1 m1 e1, .slice b2 m2 e2] 31)).heap[z.heap.size]? = some (.cells #[.int .i64 y.k, .int .i64 y.n, .slice b1 m1 e1, .slice b2 m2 e2] 31 (0, 0))) :=
            ⟨AN.out.1, AN.out.2.1.none ga, AN.out.2.2.1.le ca, (AN.out.2.2.2.1.kept ga (fun b e => by cases e)).le ca, AN.out.2.2.2.2.le ca, ba⟩
          clear AN ga ba ca
          generalize z.alloc (.cells #[.int .i64 y.k, .int .i64 y.n, .slice b1 m1 e1, .slice b2 m2 e2] 31) = z9 at *
          generalize z.heap.size = p at *
          refine hK.out _ _ ⟨(blkVal AM.out.2.1.hpv).1.1, (blkVal AM.out.2.1.hpv).1.2.1, (blkVal AM.out.2.1.hpv).1.2.2.1⟩ (fun hH2 => ?_)
          clear hK K hH
          have hH := hH2
          clear hH2
          simp only [Act.put, List.setIfInBounds_toArray, List.set_cons_zero, List.set_cons_succ, List.getElem_toArray, List.getElem_cons_succ, List.getElem_cons_zero]
          refine wpAnyH_ready (rs := [7]) (by kernel_rfl) (by simp) ?_
          refine AllReadyH.cons rfl (fun K hK => ?_) AllReadyH.nil
          refine step_of rfl (wp_appV _ _ rfl (pv + 1) (.slice la f.len lk) f vs (pv + 1) AM.out.2.2.2.1 p y b1 m1 e1 b2 m2 e2 1 rfl rfl AM.out.2.2.2.2.2 hle AM.out.2.2.2.2.1 (by have := HFL.out; omega) (lt_of_block AM.out.2.1.hpv) ?_)
          intro v9 w9 hO hg9 hcl9
          obtain ⟨la9, lk9, rfl, -, -⟩ := hO.slice
          have AQ : Hid (okN (f.app (V.cn y .nil)) ∧ DvS w0 w g a n cap pr pv (.int .i64 k2) (.int .i64 n2) (.slice ta tl tc) (.slice la f.len lk) w9 ∧ RdB (hideO w9 (pv + 1) (Value.slice la9 (f.app (V.cn y .nil)).len lk9).ownBlock) ta tl ys ∧ OwnV w9 (hideO w9 (pv + 1) (Value.slice la9 (f.app (V.cn y .nil)).len lk9).ownBlock) (pv + 1) (.slice la9 (f.app (V.cn y .nil)).len lk9) (f.app (V.cn y .nil)) _) :=
            ⟨okN_app f y AM.out.1 hy, AM.out.2.1.row hg9 hrow, AM.out.2.2.1.le hcl9, hO⟩
          have hfl2 : (f.app (V.cn y .nil)).len = j + 1 := by rw [V.app_len, HFL.out]; rfl
          have hfs2 : (f.app (V.cn y .nil)).size ≤ (j + 1) * (1 + dM (d - 1)) := by
            rw [V.app_size, V.size_cn, Nat.add_mul, Nat.one_mul]
            simp only [V.size]
            omega
          have HF2 : Hid ((f.app (V.cn y .nil)).len = j + 1) := hfl2
          clear AM hO hg9 hcl9 HFL hfs hrow hfl2
          generalize f.app (V.cn y .nil) = f2 at *
          generalize vs ++ [.int .i64 y.k, .int .i64 y.n, .slice b1 m1 e1, .slice b2 m2 e2] = vs2 at *
          refine hK.out _ _ ⟨(blkVal AQ.out.2.1.hpv).1.1, (blkVal AQ.out.2.1.hpv).1.2.1, (blkVal AQ.out.2.1.hpv).1.2.2.1⟩ (fun hH2 => ?_)
          clear hK K hH
          have hH := hH2
          clear hH2
          simp only [Act.put, List.setIfInBounds_toArray, List.set_cons_zero, List.set_cons_succ, List.getElem_toArray, List.getElem_cons_succ, List.getElem_cons_zero]
          refine wpAnyH_take (i := 8) (v := ?_) rfl (by kernel_rfl) (by kernel_rfl) (by kernel_rfl) (fun _ _ _ h => h) (Or.inl ⟨by rfl, ?_⟩) hH ?_
          rotate_left
          · (intro v hS; go_simp; try with_reducible rfl)
          simp only [Act.put, List.setIfInBounds_toArray, List.set_cons_zero, List.set_cons_succ, List.getElem_toArray, List.getElem_cons_succ, List.getElem_cons_zero]
          have z3 := (blkVal AQ.out.2.1.hpv).1.2.2.2
          have fz3 := (blkVal AQ.out.2.1.hpv).2 3
          have cs : CLe (hideO w9 (pv + 1) (Value.slice la9 f2.len lk9).ownBlock) (hideO (w9.setCell ⟨pv, 3, none⟩ (.slice la9 f2.len lk9)) (pv + 1) (Value.slice la9 f2.len lk9).ownBlock) := hidO_grown (grown_setCell w9 pv 3 _) (fun b e => .inl (by obtain rfl := Option.some.inj e; omega))
          have AR : Hid (okN f2 ∧ DvS w0 w g a n cap pr pv (.int .i64 k2) (.int .i64 n2) (.slice ta tl tc) (.slice la9 f2.len lk9) (w9.setCell ⟨pv, 3, none⟩ (.slice la9 f2.len lk9)) ∧ RdB (hideO (w9.setCell ⟨pv, 3, none⟩ (.slice la9 f2.len lk9)) (pv + 1) (Value.slice la9 f2.len lk9).ownBlock) ta tl ys ∧ OwnV (w9.setCell ⟨pv, 3, none⟩ (.slice la9 f2.len lk9)) (hideO (w9.setCell ⟨pv, 3, none⟩ (.slice la9 f2.len lk9)) (pv + 1) (Value.slice la9 f2.len lk9).ownBlock) (pv + 1) (.slice la9 f2.len lk9) f2 vs2) :=
            ⟨AQ.out.1, AQ.out.2.1.set 3 (.slice la9 f2.len lk9) (.int .i64 k2) (.int .i64 n2) (.slice ta tl tc) (.slice la9 f2.len lk9) rfl, AQ.out.2.2.1.le cs, (AQ.out.2.2.2.kept (grown_setCell w9 pv 3 _) (fun b e => by obtain rfl := Option.some.inj e; omega)).le cs⟩
          clear AQ cs
          refine wpAnyH_ready (rs := [9]) (by kernel_rfl) (by simp) ?_
          refine AllReadyH.cons rfl (fun K hK => ?_) AllReadyH.nil
          go_simp
          refine hK.out _ _ ⟨(blkVal AR.out.2.1.hpv).1.1, (blkVal AR.out.2.1.hpv).1.2.1, (blkVal AR.out.2.1.hpv).1.2.2.1⟩ (fun hH2 => ?_)
          clear hK K hH hH2 z3 fz3
          simp only [Act.put, List.setIfInBounds_toArray, List.set_cons_zero, List.set_cons_succ, List.getElem_toArray, List.getElem_cons_succ, List.getElem_cons_zero]
          refine wpAnyH_done (by kernel_rfl) ?_ _
          go_wp2
          go_roundw
          case rel => exact ⟨j + 1, f2, vs2, _, by omega, by go_num, HF2.out, hfs2, fun _ => hgo.2, AR⟩
          case measure => simp [intOf]; omega
        refine AllReadyH.cons rfl (fun K hK => ?_) AllReadyH.nil
        · skip
          go_simp
          clear z3
          have ga := World.grownBy_alloc z (.cells #[.int .i64 y.k, .int .i64 y.n, .slice b1 m1 e1, .slice b2 m2 e2] 31) none
          have ba := heap_alloc_new z (.cells #[.int .i64 y.k, .int .i64 y.n, .slice b1 m1 e1, .slice b2 m2 e2] 31)
          have ca : CLe (hideO z (pv + 1) (Value.slice la f.len lk).ownBlock) (hideO (z.alloc (.cells #[.int .i64 y.k, .int .i64 y.n, .slice b1 m1 e1, .slice b2 m2 e2] 31)) (pv + 1) (Value.slice la f.len lk).ownBlock) := hidO_grown ga (fun b e => by cases e)
          have AM : Hid (okN f ∧ DvS w0 w g a n cap pr pv (.int .i64 k2) (.int .i64 n2) (.slice ta tl tc) (.slice la f.len lk) (z.alloc (.cells #[.int .i64 y.k, .int .i64 y.n, .slice b1 m1 e1, .slice b2 m2 e2] 31)) ∧ RdB (hideO (z.alloc (.cells #[.int .i64 y.k, .int .i64 y.n, .slice b1 m1 e1, .slice b2 m2 e2] 31)) (pv + 1) (Value.slice la f.len lk).ownBlock) ta tl ys ∧ OwnV (z.alloc (.cells #[.int .i64 y.k, .int .i64 y.n, .slice b1 m1 e1, .slice b2 m2 e2] 31)) (hideO (z.alloc (.cells #[.int .i64 y.k, .int .i64 y.n, .slice b1 m1 e1, .slice b2 m2 e2] 31)) (pv + 1) (Value.slice la f.len lk).ownBlock) (pv + 1) (.slice la f.len lk) f vs ∧ RdVal (hideO (z.alloc (.cells #[.int .i64 y.k, .int .i64 y.n, .slice b1 m1 e1, .slice b2 m2 e2] 31)) (pv + 1) (Value.slice la f.len lk).ownBlock) y b1 m1 b2 m2 ∧ (z.alloc (.cells #[.int .i64 y.k, .int .i64 y.n, .slice b1 m1 e1, .slice b2 m2 e2] 31)).heap[z.heap.size]? = some (.cells #[.int .i64 y.k, .int .i64 y.n, .slice b1 m1 e1, .slice b2 m2 e2] 31 (0, 0))) :=
            ⟨AN.out.1, AN.out.2.1.none ga, AN.out.2.2.1.le ca, (AN.out.2.2.2.1.kept ga (fun b e => by cases e)).le ca, AN.out.2.2.2.2.le ca, ba⟩
          clear AN ga ba ca
          generalize z.alloc (.cells #[.int .i64 y.k, .int .i64 y.n, .slice b1 m1 e1, .slice b2 m2 e2] 31) = z9 at *
          generalize z.heap.size = p at *
          refine hK.out _ _ ⟨(blkVal AM.out.2.1.hpv).1.1, (blkVal AM.out.2.1.hpv).1.2.1, (blkVal AM.out.2.1.hpv).1.2.2.1⟩ (fun hH2 => ?_)
          clear hK K hH
          have hH := hH2
          clear hH2
          simp only [Act.put, List.setIfInBounds_toArray, List.set_cons_zero, List.set_cons_succ, List.getElem_toArray, List.getElem_cons_succ, List.getElem_cons_zero]
          have z3 := (blkVal AM.out.2.1.hpv).1.2.2.2
          refine wpAnyH_ready (rs := [1]) (by kernel_rfl) (by simp) ?_
          refine AllReadyH.cons rfl (fun K hK => ?_) AllReadyH.nil
          · skip
            go_simp
            refine hK.out _ _ ⟨(blkVal AM.out.2.1.hpv).1.1, (blkVal AM.out.2.1.hpv).1.2.1, (blkVal AM.out.2.1.hpv).1.2.2.1⟩ (fun hH2 => ?_)
            clear hK K hH
            have hH := hH2
            clear hH2
            simp only [Act.put, List.setIfInBounds_toArray, List.set_cons_zero, List.set_cons_succ, List.getElem_toArray, List.getElem_cons_succ, List.getElem_cons_zero]
            clear z3
            refine wpAnyH_ready (rs := [7]) (by kernel_rfl) (by simp) ?_
            refine AllReadyH.cons rfl (fun K hK => ?_) AllReadyH.nil
            refine step_of rfl (wp_appV _ _ rfl (pv + 1) (.slice la f.len lk) f vs (pv + 1) AM.out.2.2.2.1 p y b1 m1 e1 b2 m2 e2 1 rfl rfl AM.out.2.2.2.2.2 hle AM.out.2.2.2.2.1 (by have := HFL.out; omega) (lt_of_block AM.out.2.1.hpv) ?_)
            intro v9 w9 hO hg9 hcl9
            obtain ⟨la9, lk9, rfl, -, -⟩ := hO.slice
            have AQ : Hid (okN (f.app (V.cn y .nil)) ∧ DvS w0 w g a n cap pr pv (.int .i64 k2) (.int .i64 n2) (.slice ta tl tc) (.slice la f.len lk) w9 ∧ RdB (hideO w9 (pv + 1) (Value.slice la9 (f.app (V.cn y .nil)).len lk9).ownBlock) ta tl ys ∧ OwnV w9 (hideO w9 (pv + 1) (Value.slice la9 (f.app (V.cn y .nil)).len lk9).ownBlock) (pv + 1) (.slice la9 (f.app (V.cn y .nil)).len lk9) (f.app (V.cn y .nil)) _) :=
              ⟨okN_app f y AM.out.1 hy, AM.out.2.1.row hg9 hrow, AM.out.2.2.1.le hcl9, hO⟩
            have hfl2 : (f.app (V.cn y .nil)).len = j + 1 := by rw [V.app_len, HFL.out]; rfl
            have hfs2 : (f.app (V.cn y .nil)).size ≤ (j + 1) * (1 + dM (d - 1)) := by
              rw [V.app_size, V.size_cn, Nat.add_mul, Nat.one_mul]
              simp only [V.size]
              omega
            have HF2 : Hid ((f.app (V.cn y .nil)).len = j + 1) := hfl2
            clear AM hO hg9 hcl9 HFL hfs hrow hfl2
            generalize f.app (V.cn y .nil) = f2 at *
            generalize vs ++ [.int .i64 y.k, .int .i64 y.n, .slice b1 m1 e1, .slice b2 m2 e2] = vs2 at *
            refine hK.out _ _ ⟨(blkVal AQ.out.2.1.hpv).1.1, (blkVal AQ.out.2.1.hpv).1.2.1, (blkVal AQ.out.2.1.hpv).1.2.2.1⟩ (fun hH2 => ?_)
            clear hK K hH
            have hH := hH2
            clear hH2
            simp only [Act.put, List.setIfInBounds_toArray, List.set_cons_zero, List.set_cons_succ, List.getElem_toArray, List.getElem_cons_succ, List.getElem_cons_zero]
            refine wpAnyH_take (i := 8) (v := ?_) rfl (by kernel_rfl) (by kernel_rfl) (by kernel_rfl) (fun _ _ _ h => h) (Or.inl ⟨by rfl, ?_⟩) hH ?_
            rotate_left
            · (intro v hS; go_simp; try with_reducible rfl)
            simp only [Act.put, List.setIfInBounds_toArray, List.set_cons_zero, List.set_cons_succ, List.getElem_toArray, List.getElem_cons_succ, List.getElem_cons_zero]
            have z3 := (blkVal AQ.out.2.1.hpv).1.2.2.2
            have fz3 := (blkVal AQ.out.2.1.hpv).2 3
            have cs : CLe (hideO w9 (pv + 1) (Value.slice la9 f2.len lk9).ownBlock) (hideO (w9.setCell ⟨pv, 3, none⟩ (.slice la9 f2.len lk9)) (pv + 1) (Value.slice la9 f2.len lk9).ownBlock) := hidO_grown (grown_setCell w9 pv 3 _) (fun b e => .inl (by obtain rfl := Option.some.inj e; omega))
            have AR : Hid (okN f2 ∧ DvS w0 w g a n cap pr pv (.int .i64 k2) (.int .i64 n2) (.slice ta tl tc) (.slice la9 f2.len lk9) (w9.setCell ⟨pv, 3, none⟩ (.slice la9 f2.len lk9)) ∧ RdB (hideO (w9.setCell ⟨pv, 3, none⟩ (.slice la9 f2.len lk9)) (pv + 1) (Value.slice la9 f2.len lk9).ownBlock) ta tl ys ∧ OwnV (w9.setCell ⟨pv, 3, none⟩ (.slice la9 f2.len lk9)) (hideO (w9.setCell ⟨pv, 3, none⟩ (.slice la9 f2.len lk9)) (pv + 1) (Value.slice la9 f2.len lk9).ownBlock) (pv + 1) (.slice la9 f2.len lk9) f2 vs2) :=
              ⟨AQ.out.1, AQ.out.2.1.set 3 (.slice la9 f2.len lk9) (.int .i64 k2) (.int .i64 n2) (.slice ta tl tc) (.slice la9 f2.len lk9) rfl, AQ.out.2.2.1.le cs, (AQ.out.2.2.2.kept (grown_setCell w9 pv 3 _) (fun b e => by obtain rfl := Option.some.inj e; omega)).le cs⟩
            clear AQ cs
            refine wpAnyH_ready (rs := [9]) (by kernel_rfl) (by simp) ?_
            refine AllReadyH.cons rfl (fun K hK => ?_) AllReadyH.nil
            go_simp
            refine hK.out _ _ ⟨(blkVal AR.out.2.1.hpv).1.1, (blkVal AR.out.2.1.hpv).1.2.1, (blkVal AR.out.2.1.hpv).1.2.2.1⟩ (fun hH2 => ?_)
            clear hK K hH hH2 z3 fz3
            simp only [Act.put, List.setIfInBounds_toArray, List.set_cons_zero, List.set_cons_succ, List.getElem_toArray, List.getElem_cons_succ, List.getElem_cons_zero]
            refine wpAnyH_done (by kernel_rfl) ?_ _
            go_wp2
            go_roundw
            case rel => exact ⟨j + 1, f2, vs2, _, by omega, by go_num, HF2.out, hfs2, fun _ => hgo.2, AR⟩
            case measure => simp [intOf]; omega
    · have hcond : ¬ ((j : Int) < m) ∨ (((j : Int) < m) ∧ ¬ (0 : Int) < (d : Int)) := by
        by_cases h1 : (j : Int) < m
        · exact .inr ⟨h1, fun h2 => hgo ⟨h1, by omega⟩⟩
        · exact .inl h1
      have hlt := HL.out.2.1.lt
      have hsz : szVal ⟨k2, n2, ys, f⟩ ≤ dM d := by
        have := HX.out.2
        simp only [szVal]
        by_cases hd0 : 0 < d
        · have := dM_pos d j hd0 (by omega)
          omega
        · obtain rfl : j = 0 := by omega
          have h5 : dM d = 5 := by rw [show d = 0 by omega]; rfl
          omega
      obtain ⟨⟨z0, z1, z2, z3⟩, -⟩ := blkVal HL.out.2.1.hpv
      obtain ⟨⟨x0, x1, x2, x3⟩, hfx⟩ := blkVal HL.out.2.1.hpr
      have fx0 := hfx 0
      have fx1 := hfx 1
      have fx2 := hfx 2
      have fx3 := hfx 3
      obtain ⟨mf, kf⟩ := fillVal (.int .i64 k2) (.int .i64 n2) (.slice ta tl tc) (.slice la f.len lk) HL.out.2.1.hpr
      have cf := hidO_grown (lo := pv + 1) (r := (Value.slice la f.len lk).ownBlock) kf (fun b e => .inl (by obtain rfl := Option.some.inj e; omega))
      have hpw : lo ≤ pv + 1 := by omega
      have OF := (HL.out.2.2.2.kept kf (fun b e => by obtain rfl := Option.some.inj e; omega)).le cf
      have hfl3 : f.len ≤ 1000000 := by have := HFL.out; omega
      have FQ : Hid _ := And.intro mf (And.intro (HL.out.2.1.fillpr kf) (And.intro (HL.out.2.2.1.le (cf.trans (CLe.hidOZ hpw))) (And.intro (OF.reads hpw (CLe.hidOZ hpw) hfl3) (And.intro HX.out.1 (show okX ⟨k2, n2, ys, f⟩ ∧ szVal ⟨k2, n2, ys, f⟩ ≤ dM d from ⟨⟨HN, HL.out.1⟩, hsz⟩)))))
      have npv : pv ≠ pr := by omega
      clear hfx mf kf cf OF HL HX hsz hpw hfl3 hgo hjd hfs hln hlk hDw IH HFL
      rcases hcond with h1 | ⟨h1, h2⟩
      · clear hj hlt
        go_wp2
        (try simp only [Exit.inBlock, Exit.then])
        refine bodyPost_ret (results_cell_row (P := Tryd.prog) Tryd.results28 _ _ pr _ _ _ _ rfl FQ.out.1 Tryd.underlying31 rfl (by kernel_rfl)) rfl ?_
        exact ⟨⟨k2, n2, ys, f⟩, ta, tl, tc, la, f.len, ⟨lk, rfl⟩, FQ.out.2.1, ⟨FQ.out.2.2.1, FQ.out.2.2.2.1⟩, FQ.out.2.2.2.2.1, FQ.out.2.2.2.2.2.1, FQ.out.2.2.2.2.2.2⟩
      · clear hj hlt
        go_wp2
        (try simp only [Exit.inBlock, Exit.then])
        refine bodyPost_ret (results_cell_row (P := Tryd.prog) Tryd.results28 _ _ pr _ _ _ _ rfl FQ.out.1 Tryd.underlying31 rfl (by kernel_rfl)) rfl ?_
        exact ⟨⟨k2, n2, ys, f⟩, ta, tl, tc, la, f.len, ⟨lk, rfl⟩, FQ.out.2.1, ⟨FQ.out.2.2.1, FQ.out.2.2.2.1⟩, FQ.out.2.2.2.2.1, FQ.out.2.2.2.2.2.1, FQ.out.2.2.2.2.2.2⟩
end Go.Proofs.YtpmndefmibnaeaaDoor.By
