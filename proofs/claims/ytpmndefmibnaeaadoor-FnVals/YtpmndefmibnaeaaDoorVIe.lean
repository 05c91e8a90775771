/-
  What is shown, by the program: parts in brackets; both by induction. No statement is proved here.
-/
import Derived.Test.YtpmndefmibnaeaaDoorVId
namespace Go.Proofs.YtpmndefmibnaeaaDoor.By
open Go.RowKit
set_option linter.unusedVariables false
set_option linter.unusedSimpArgs false

def V.drop : V → Nat → V
  | r, 0 => r
  | .nil, _ + 1 => .nil
  | .cons _ _ _ _ r, i + 1 => r.drop i
theorem V.drop_cn : ∀ (f : V) (i : Nat), i < f.len → f.drop i = V.cn (f.nth i) (f.drop (i + 1)) := by
  intro f
  induction f with
  | nil => intro i h; simp [V.len] at h
  | cons k n t d r _ ih =>
    intro i h
    cases i with
    | zero => cases r <;> rfl
    | succ i => exact ih i (by simp only [V.len] at h; omega)
theorem V.nth_small : ∀ (f : V) (i : Nat), i < f.len → okP f → szVal (f.nth i) ≤ 1048576 := by
  intro f
  induction f with
  | nil => intro i h; simp [V.len] at h
  | cons k n t d r _ ih =>
    intro i h hp
    cases i with
    | zero => exact hp.1
    | succ i => exact ih i (by simp only [V.len] at h; omega) hp.2.2
theorem V.drop_zero (f : V) : f.drop 0 = f := by cases f <;> rfl
theorem V.drop_all : ∀ (f : V), f.drop f.len = .nil := by
  intro f
  induction f with
  | nil => rfl
  | cons k n t d r _ ih => exact ih
theorem loopI_cn (f : List Int → RVal → List Int) (s : List Int) (first : Bool) (x : RVal) (r : V) : loopI f s first (V.cn x r) = if s.length < 30000 then loopI f (f (s ++ (if first then [40] else [44, 32])) x) false r else s := rfl
theorem loopI_long (f : List Int → RVal → List Int) (s : List Int) (first : Bool) (p : V) (h : ¬ s.length < 30000) : loopI f s first p = s := by
  cases p with
  | nil => rfl
  | cons k n t d r => rw [loopI_cons, if_neg h]



set_option maxRecDepth 8000 in
set_option maxHeartbeats 4000000 in
theorem nestT_of (W0 : World) (q : Nat) (cells : V) (ca : Option Addr) (cl cc : Nat) (hE : Env W0 cells ca cl cc) (d : Nat) (hd8 : d ≤ 8) (hP : ∀ d', d = d' + 1 → PuC W0 q cells ca cl cc d') : NeC W0 q cells ca cl cc d := by
  intro x a1 l1 c1 p5 p3 v zs st hd w hst hhd hsz hok hb hclo hW hlen
  have hB := hb.size
  have g0 := World.grownBy_alloc w (.cells #[.int .i64 x.k, .int .i64 x.n, .slice a1 l1 c1, .int .i64 ((prt cells x).len : Nat), .func (Fn.func 32) #[] #[.pointer (some ⟨p5, 0, none⟩), .pointer (some ⟨p3, 0, none⟩)]] 48) none
  have b0 := heap_alloc_new w (.cells #[.int .i64 x.k, .int .i64 x.n, .slice a1 l1 c1, .int .i64 ((prt cells x).len : Nat), .func (Fn.func 32) #[] #[.pointer (some ⟨p5, 0, none⟩), .pointer (some ⟨p3, 0, none⟩)]] 48)
  have AL : Hid (WrO W0.heap.size q _ v zs ∧ FrP W0.heap.size q w _ ∧ Clo W0 _ cells x ca cl cc p5 p3 ∧ Below W0.heap.size W0 _ ∧ _) := ⟨hW.grown g0, FrP.grown g0 hB, hclo.none g0, hb.grown g0 hB (fun k e => by cases e), b0⟩
  have hPs : szVal x ≤ 1048576 ∧ okX x := ⟨hsz, hok⟩
  have HX : Hid (okP (prt cells x) ∧ okN (prt cells x) ∧ (prt cells x).size ≤ 1048577 ∧ Env W0 cells ca cl cc) := ⟨prt_okP cells x hE.sz hsz hE.ok hok, prt_ok cells x hE.ok hok, prt_size cells x hE.sz hsz, hE⟩
  have HP : Hid (∀ d', d = d' + 1 → PuC W0 q cells ca cl cc d') := hP
  have hpl := V.len_le (prt cells x)
  have hpl2 := HX.out.2.2.1
  clear hsz hok hb hclo hW g0 hP hE
  unfold LkV
  obtain ⟨D, hD⟩ : ∃ D : Int, D = ((d : Nat) : Int) := ⟨_, rfl⟩
  rw [← hD]
  cases d with
  | zero =>
    have hD0 : (D == 0) = true := by simp; omega
    have CA : Hid _ := addT W0.heap.size q v zs ⟨#[46, 46]⟩ [46, 46] _ AL.out.1 rfl (by simp; omega)
    clear hD
    go_enter Tryd.func42, Tryd.ntmps42
    go_wp2_with fail
    refine Calls.mono CA.out ?_
    rintro e u ⟨rfl, v2, hW2, hF2⟩
    have FF : Hid (WrO W0.heap.size q u v2 (nestV cells 0 zs hd x) ∧ FrP W0.heap.size q w u) := ⟨hW2, AL.out.2.1.trans hF2⟩
    clear hW2 hF2 CA AL
    simp only []
    go_wp2
    (try simp only [Exit.inBlock, Exit.then])
    refine bodyPost_ret (results_noneK (P := Tryd.prog) Tryd.results42 _ _) rfl ?_
    exact ⟨rfl, v2, FF.out⟩
  | succ d =>
  have hD0 : (D == 0) = false := by simp; omega
  have hDw : IntKind.i64.wrap (D - 1) = ((d : Nat) : Int) := by rw [IntWalk.i64_in _ ⟨by omega, by omega⟩]; omega
  have CA : Hid _ := addT W0.heap.size q v zs st hd _ AL.out.1 hst (by omega)
  obtain ⟨⟨y0, y1, y2, y3, y4⟩, -⟩ := blkLook b0
  clear hD b0
  go_enter Tryd.func42, Tryd.ntmps42
  go_wp2_with fail
  generalize w.alloc (.cells #[.int .i64 x.k, .int .i64 x.n, .slice a1 l1 c1, .int .i64 ((prt cells x).len : Nat), .func (Fn.func 32) #[] #[.pointer (some ⟨p5, 0, none⟩), .pointer (some ⟨p3, 0, none⟩)]] 48) = w1 at *
  generalize w.heap.size = pb at *
  refine Calls.mono CA.out ?_
  rintro e u ⟨rfl, v2, hW2, hF2⟩
  have AM : Hid (WrO W0.heap.size q u v2 (zs ++ hd) ∧ FrP W0.heap.size q w1 u) := ⟨hW2, hF2⟩
  have hzl : (zs ++ hd).length + 24 * (d + 1) ≤ 30221 := by rw [List.length_append]; omega
  have EF : Hid (nestV cells (d + 1) zs hd x = loopI (ipV cells d) (zs ++ hd) true (prt cells x) ++ (if (prt cells x).len = 0 then [] else [41])) := rfl
  have hx1 := hPs
  clear hW2 hF2 CA y0 y1 y2 y3 y4 hst hhd hPs
  generalize zs ++ hd = zh at *
  simp only []
  obtain ⟨P, hPx⟩ : ∃ P, P = prt cells x := ⟨_, rfl⟩
  have EP : Hid (P = prt cells x) := hPx
  rw [← hPx] at HX hpl hpl2 EF ⊢
  have EZ : Hid (nestV cells (d + 1) zs hd x = loopI (ipV cells d) zh true P ++ (if P.len = 0 then [] else [41])) := EF
  have BX : Hid (w1.heap[pb]? = some (.cells #[.int .i64 x.k, .int .i64 x.n, .slice a1 l1 c1, .int .i64 (P.len : Nat), .func (Fn.func 32) #[] #[.pointer (some ⟨p5, 0, none⟩), .pointer (some ⟨p3, 0, none⟩)]] 48 (0, 0))) := by
    have := AL.out.2.2.2.2
    rw [← hPx] at this
    exact this
  have AX : Hid (WrO W0.heap.size q w1 v zs ∧ FrP W0.heap.size q w w1 ∧ Clo W0 w1 cells x ca cl cc p5 p3 ∧ Below W0.heap.size W0 w1) := ⟨AL.out.1, AL.out.2.1, AL.out.2.2.1, AL.out.2.2.2.1⟩
  clear AL EF hPx
  have HPP : Hid _ := HP
  have HYS : Hid (∀ j, j < P.len → szVal (P.nth j) ≤ 1048576) := fun j hj => V.nth_small P j hj HX.out.1
  have hzl2 : zh.length ≤ 60320 := by omega
  obtain ⟨⟨y0, y1, y2, y3, y4⟩, -⟩ := blkLook (AX.out.1.look AM.out.2 BX.out)
  go_wp2
  clear y0 y1 y2 y3 y4
  go_loopw [8, 9] (fun bt i wr => ∃ (j : Nat) (vj : Value) (zj : List Int), j ≤ P.len ∧ i = .int .i64 j ∧ bt = .string (if j = 0 then ⟨#[40]⟩ else ⟨#[44, 32]⟩) ∧ zj.length ≤ 60320 ∧ Hid (loopI (ipV cells d) zj (decide (j = 0)) (P.drop j) = loopI (ipV cells d) zh true P) ∧ Hid (WrO W0.heap.size q wr vj zj ∧ FrP W0.heap.size q w1 wr)) (fun _ i _ => P.len - (intOf i).toNat)
  case atStart => exact ⟨0, v2, zh, Nat.zero_le _, rfl, rfl, hzl2, by rw [V.drop_zero]; rfl, AM⟩
  case round =>
    clear AM
    obtain ⟨j, vj, zj, hj, rfl, rfl, hzj, HR, HW⟩ := hrel
    obtain ⟨⟨y0, y1, y2, y3, y4⟩, -⟩ := blkLook (AX.out.1.look HW.out.2 BX.out)
    obtain ⟨q0, -⟩ := one_cell HW.out.1.box
    obtain ⟨-, a9, c9, rfl, -⟩ := ownsS HW.out.1.own
    by_cases hgo : j < P.len ∧ zj.length < 30000
    · have hjl : (j : Int) < (P.len : Int) := by omega
      have hzl3 : (zj.length : Int) < 30000 := by omega
      obtain ⟨bs, hbs⟩ : ∃ bs, bs = (if j = 0 then (⟨#[40]⟩ : ByteArray) else ⟨#[44, 32]⟩) := ⟨_, rfl⟩
      obtain ⟨bl, hbl⟩ : ∃ bl : List Int, bl = (if j = 0 then [40] else [44, 32]) := ⟨_, rfl⟩
      have hbb : ofB bs.data.toList = bl := by rw [hbs, hbl]; split <;> rfl
      have hbn : bl.length ≤ 2 := by rw [hbl]; split <;> simp
      have ER : Hid (loopI (ipV cells d) zh true P = loopI (ipV cells d) (ipV cells d (zj ++ bl) (P.nth j)) false (P.drop (j + 1))) := by
        show _ = _
        rw [← HR.out, V.drop_cn P j hgo.1, loopI_cn, if_pos hgo.2, hbl]
        by_cases hj0 : j = 0 <;> simp [hj0]
      rw [← hbs]
      clear hbs hbl HR
      have CA : Hid _ := addT W0.heap.size q (.slice a9 zj.length c9) zj bs bl wr HW.out.1 hbb (by omega)
      clear hbb
      go_wp2_with fail
      refine Calls.mono CA.out ?_
      rintro e u3 ⟨rfl, v3, hW3, hF3⟩
      have H3 : Hid (WrO W0.heap.size q u3 v3 (zj ++ bl) ∧ FrP W0.heap.size q w1 u3) := ⟨hW3, HW.out.2.trans hF3⟩
      clear hW3 hF3 CA HW y0 y1 y2 y3 y4 q0
      obtain ⟨⟨y0, y1, y2, y3, y4⟩, -⟩ := blkLook (AX.out.1.look H3.out.2 BX.out)
      have CT : Hid _ := partT W0 cells x ca cl cc p5 p3 u3 (AX.out.2.2.2.trans H3.out.2.below) (AX.out.2.2.1.fr AX.out.1 H3.out.2) HX.out.2.2.2.sl HX.out.2.2.2.cc j (by rw [← EP.out]; exact hgo.1) (by rw [← EP.out]; exact HX.out.2.1)
      rw [← EP.out] at CT
      have HYO : Hid (szVal (P.nth j) ≤ 1048576 ∧ okX (P.nth j)) := ⟨HYS.out j hgo.1, V.nth_ok P j HX.out.2.1⟩
      generalize P.nth j = y at *
      simp only []
      go_wp2_with fail
      refine Calls.mono CT.out ?_
      rintro e u4 ⟨f1, m1, g1, r5, r3, he, hg4, hclo4, hrd, hle⟩
      unfold LkV at he
      subst he
      have H4 : Hid (WrO W0.heap.size q u4 v3 (zj ++ bl) ∧ FrP W0.heap.size q w1 u4) := ⟨H3.out.1.grown hg4, H3.out.2.trans (FrP.grown hg4 H3.out.1.size)⟩
      have CP : Hid _ := HPP.out d rfl y f1 m1 g1 r5 r3 v3 (zj ++ bl) u4 hrd hle HYO.out.1 HYO.out.2 (AX.out.2.2.2.trans H4.out.2.below) hclo4 H4.out.1 (by simp only [List.length_append]; omega)
      unfold LkV at CP
      clear H3 CT hg4 hclo4 hrd hle y0 y1 y2 y3 y4
      have hln := ipV_len cells HX.out.2.2.2.sz HX.out.2.2.2.ok d (zj ++ bl) y (by omega) HYO.out.1 HYO.out.2 (by simp only [List.length_append]; omega)
      simp only []
      go_wp2_with fail
      refine Calls.mono CP.out ?_
      rintro e u5 ⟨rfl, v5, hW5, hF5⟩
      have H5 : Hid (WrO W0.heap.size q u5 v5 (ipV cells d (zj ++ bl) y) ∧ FrP W0.heap.size q w1 u5) := ⟨hW5, H4.out.2.trans hF5⟩
      have EN : Hid (loopI (ipV cells d) (ipV cells d (zj ++ bl) y) (decide (j + 1 = 0)) (P.drop (j + 1)) = loopI (ipV cells d) zh true P) := ER.out.symm
      clear hW5 hF5 H4 CP ER HYO
      generalize ipV cells d (zj ++ bl) y = zn at *
      simp only []
      go_wp2
      go_roundw
      case rel => exact ⟨j + 1, v5, zn, by omega, by go_num, by rw [if_neg (by omega)], by omega, EN, H5⟩
      case measure => simp [intOf]; omega
    · have EX : Hid (loopI (ipV cells d) zh true P = zj) := by
        show _ = _
        rw [← HR.out]
        by_cases h1 : j < P.len
        · exact loopI_long _ _ _ _ (fun h2 => hgo ⟨h1, h2⟩)
        · obtain rfl : j = P.len := by omega
          rw [V.drop_all]; rfl
      have EW : Hid (zj ++ (if P.len = 0 then [] else [41]) = nestV cells (d + 1) zs hd x) := by show _ = _; rw [EZ.out, EX.out]
      have hcond : ¬ ((j : Int) < (P.len : Int)) ∨ ((j : Int) < (P.len : Int)) ∧ ¬ ((zj.length : Int) < 30000) := by
        by_cases h1 : j < P.len
        · exact .inr ⟨by omega, fun h2 => hgo ⟨h1, by omega⟩⟩
        · exact .inl (by omega)
      obtain ⟨bs, hbs⟩ : ∃ bs, bs = (if j = 0 then (⟨#[40]⟩ : ByteArray) else ⟨#[44, 32]⟩) := ⟨_, rfl⟩
      rw [← hbs]
      clear HR EX EZ hgo HPP HP hbs
      by_cases hp0 : P.len = 0
      · have hp0' : ¬ (0 : Int) < (P.len : Int) := by omega
        have FF : Hid (WrO W0.heap.size q wr (.slice a9 zj.length c9) (nestV cells (d + 1) zs hd x) ∧ FrP W0.heap.size q w wr) := ⟨HW.out.1.as (by rw [← EW.out, if_pos hp0, List.append_nil]), AX.out.2.1.trans HW.out.2⟩
        clear HW EW
        have h1 : ¬ ((j : Int) < (P.len : Int)) := by omega
        clear hp0 hj hcond hpl hpl2 hzj
        go_wp2
        (try simp only [Exit.inBlock, Exit.then])
        refine bodyPost_end (results_noneK (P := Tryd.prog) Tryd.results42 _ _) rfl ?_
        exact ⟨rfl, _, FF.out⟩
      · have hp0' : (0 : Int) < (P.len : Int) := by omega
        have CA : Hid _ := addT W0.heap.size q (.slice a9 zj.length c9) zj ⟨#[41]⟩ [41] wr HW.out.1 rfl (by simp; omega)
        have EW2 : Hid (zj ++ [41] = nestV cells (d + 1) zs hd x) := by show _ = _; rw [← EW.out, if_neg hp0]
        clear EW hp0 hj hpl hpl2 hzj hzl hzl2
        rcases hcond with h1 | ⟨h1, h2⟩
        · go_wp2_with fail
          refine Calls.mono CA.out ?_
          rintro e u3 ⟨rfl, v3, hW3, hF3⟩
          have FF : Hid (WrO W0.heap.size q u3 v3 (nestV cells (d + 1) zs hd x) ∧ FrP W0.heap.size q w u3) := ⟨hW3.as EW2.out, AX.out.2.1.trans (HW.out.2.trans hF3)⟩
          clear hW3 hF3 CA HW y0 y1 y2 y3 y4 q0
          simp only []
          go_wp2
          (try simp only [Exit.inBlock, Exit.then])
          refine bodyPost_end (results_noneK (P := Tryd.prog) Tryd.results42 _ _) rfl ?_
          exact ⟨rfl, v3, FF.out⟩
        · have HP0 : Hid ((0 : Int) < (P.len : Int)) := hp0'
          clear hp0'
          go_upto_region 11 with fail
          clear h1 h2
          have hp0' := HP0.out
          go_wp2_with fail
          refine Calls.mono CA.out ?_
          rintro e u3 ⟨rfl, v3, hW3, hF3⟩
          have FF : Hid (WrO W0.heap.size q u3 v3 (nestV cells (d + 1) zs hd x) ∧ FrP W0.heap.size q w u3) := ⟨hW3.as EW2.out, AX.out.2.1.trans (HW.out.2.trans hF3)⟩
          clear hW3 hF3 CA HW y0 y1 y2 y3 y4 q0
          simp only []
          go_wp2
          (try simp only [Exit.inBlock, Exit.then])
          refine bodyPost_end (results_noneK (P := Tryd.prog) Tryd.results42 _ _) rfl ?_
          exact ⟨rfl, v3, FF.out⟩

/-- Both, at each depth. -/
theorem showT_all (W0 : World) (q : Nat) (cells : V) (ca : Option Addr) (cl cc : Nat) (hE : Env W0 cells ca cl cc) : ∀ d, d ≤ 8 → PuC W0 q cells ca cl cc d := by
  intro d
  induction d with
  | zero => intro h; exact putT_of W0 q cells ca cl cc hE 0 h (nestT_of W0 q cells ca cl cc hE 0 h (fun d' e => absurd e (by omega)))
  | succ d ih => intro h; exact putT_of W0 q cells ca cl cc hE (d + 1) h (nestT_of W0 q cells ca cl cc hE (d + 1) h (fun d' e => (show d = d' by omega) ▸ ih (by omega)))
end Go.Proofs.YtpmndefmibnaeaaDoor.By
