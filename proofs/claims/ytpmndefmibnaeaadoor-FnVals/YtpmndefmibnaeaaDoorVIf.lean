/-
  The program's ShowVal by its contract. No statement is proved here.
-/
import Derived.Test.YtpmndefmibnaeaaDoorVIe
namespace Go.Proofs.YtpmndefmibnaeaaDoor.By
open Go.RowKit
set_option linter.unusedVariables false
set_option linter.unusedSimpArgs false

theorem Clo.to {W0 u : World} {cells : V} {x : RVal} {ca : Option Addr} {cl cc p5 p3 : Nat} (h : Clo W0 u cells x ca cl cc p5 p3) (k : CLe W0 u) : Clo u u cells x ca cl cc p5 p3 := by
  obtain ⟨⟨pa, pc, h1, h2⟩, h3⟩ := h
  exact ⟨⟨pa, pc, h1, h2.le k⟩, h3⟩
theorem below_of_grown {w u : World} (h : w.grownBy u none) : Below w.heap.size w u := ⟨h.os, h.tape, h.output, h.size, fun k hk => h.block k hk (by simp)⟩
theorem Env.to {w u : World} {cells : V} {ca : Option Addr} {cl cc : Nat} (h : Env w cells ca cl cc) (g : w.grownBy u none) : Env u cells ca cl cc :=
  ⟨h.sl.none g, h.cc, h.sz, h.ok, fun z hz => h.tab z ((below_of_grown g).trans (hz.mono g.size))⟩

set_option maxRecDepth 4000 in
set_option maxHeartbeats 2000000 in
theorem freshV (a : Option Addr) (n c : Nat) (zs : List Int) (w : World) (h : Reads w a n zs) (hn : n ≤ 4194304) :
    Calls Tryd.prog 34 #[.slice a n c] w fun e u => ∃ a' c', e = .returned (.slice a' zs.length c') ∧ OwS w.heap.size u a' zs.length c' zs ∧ w.grownBy u none := by
  obtain ⟨i0, hi, hz0, hz1, hz2⟩ := info_parts infoS
  have HO : Hid (w.ownsRow w.heap.size 5 1 (.slice none 0 0) ([] : List Int).length (vals []) ∧ Reads w a n zs) := ⟨World.ownsRow_nil _ _ _ _, h⟩
  clear h
  go_enter Tryd.func34, Tryd.ntmps34
  go_wp2_with (at_builtin; go_must (refine wpList_appG rfl _ _ 22 rfl w.heap.size i0 (.int .u8 0) Tryd.underlying22 hi hz0 hz1 hz2 rfl (.slice none 0 0) [] rfl HO.out.1 a n c zs rfl HO.out.2 (by simp; omega) (Nat.le_refl _) ?_); intro v9 u9 s9)
  obtain ⟨-, a4, c4, rfl, ho⟩ := ownsS s9.own
  have FF : Hid (OwS w.heap.size u9 a4 zs.length c4 zs ∧ w.grownBy u9 none) := ⟨ho, s9.gr⟩
  clear ho s9 HO
  go_ret
  exact ⟨a4, c4, rfl, FF.out⟩

set_option maxRecDepth 8000 in
set_option maxHeartbeats 4000000 in
theorem shownT (cells : V) (x : RVal) (a1 : Option Addr) (l1 c1 p5 p3 : Nat) (ca : Option Addr) (cl cc : Nat) (w : World) (hE : Env w cells ca cl cc) (hclo : Clo w w cells x ca cl cc p5 p3) (hr : RdB w a1 l1 x.text) (hle : l1 ≤ c1) (hsz : szVal x ≤ 1048576) (hok : okX x) :
    Calls Tryd.prog 25 #[LkV x a1 l1 c1 (prt cells x).len p5 p3] w fun e u => ∃ a c, e = .returned (.slice a (shownV cells x).length c) ∧ OwS w.heap.size u a (shownV cells x).length c (shownV cells x) ∧ w.grownBy u none := by
  have ES : Hid (cut (ipV cells 8 [] x) = shownV cells x) := ipV_shown cells x
  have hln := ipV_len cells hE.sz hE.ok 8 [] x (by omega) hsz hok (by simp)
  obtain ⟨b0, b1, bs⟩ := alloc2_blocks w (.cells #[.int .i64 x.k, .int .i64 x.n, .slice a1 l1 c1, .int .i64 ((prt cells x).len : Nat), .func (Fn.func 32) #[] #[.pointer (some ⟨p5, 0, none⟩), .pointer (some ⟨p3, 0, none⟩)]] 48) (.cells #[.slice none 0 0] 59)
  have g0 := grown_alloc (grown_alloc (World.grownBy.refl w none) (.cells #[.int .i64 x.k, .int .i64 x.n, .slice a1 l1 c1, .int .i64 ((prt cells x).len : Nat), .func (Fn.func 32) #[] #[.pointer (some ⟨p5, 0, none⟩), .pointer (some ⟨p3, 0, none⟩)]] 48)) (.cells #[.slice none 0 0] 59)
  have CP : Hid _ := showT_all w (w.heap.size + 1) cells ca cl cc hE 8 (by omega) x a1 l1 c1 p5 p3 (.slice none 0 0) [] _ hr hle hsz hok (below_of_grown g0) (hclo.none g0) ⟨b1, World.ownsRow_nil _ _ _ _, by omega, g0.size⟩ (by simp)
  have G0 : Hid _ := g0
  obtain ⟨⟨y0, y1, y2, y3, y4⟩, -⟩ := blkLook b0
  unfold LkV at CP ⊢
  clear hE hclo hr hsz hok g0 b0 b1 bs
  go_enter Tryd.func25, Tryd.ntmps25
  go_wp2_with fail
  refine Calls.mono CP.out ?_
  rintro e u ⟨rfl, v2, hW, hF⟩
  obtain ⟨-, a4, c4, rfl, ho⟩ := ownsS hW.own
  obtain ⟨q0, -⟩ := one_cell hW.box
  have H1 : Hid (OwS w.heap.size u a4 (ipV cells 8 [] x).length c4 (ipV cells 8 [] x) ∧ w.grownBy u none) := ⟨ho, grown_of_belowS ((below_of_grown G0.out).trans hF.below)⟩
  clear CP G0 hW hF ho y0 y1 y2 y3 y4
  generalize ipV cells 8 [] x = zs at *
  obtain ⟨m, hm⟩ : ∃ m, m = min zs.length 30000 := ⟨_, rfl⟩
  have hcl : (cut zs).length = m := by unfold cut; simp; omega
  have hOm : OwS w.heap.size u a4 m c4 (zs.take m) := H1.out.1.take m (by omega)
  have hct : zs.take m = cut zs := by
    unfold cut
    by_cases h3 : zs.length ≤ 30000
    · rw [List.take_of_length_le (by omega), List.take_of_length_le h3]
    · rw [show m = 30000 by omega]
  have hcap : zs.length ≤ c4 := by
    rcases H1.out.1.1.2 with ⟨e, h0⟩ | ⟨g, cap, cur, e, hB, hc, hn, -⟩
    · injection e with e1 e2 e3; omega
    · injection e with e1 e2 e3; omega
  have CF : Hid _ := freshV a4 m c4 (cut zs) u (by rw [← hct]; exact hOm.reads) (by omega)
  rw [ES.out] at CF
  have hmin : min (zs.length : Int) 30000 = (m : Int) := by omega
  have hmc : (m : Int) ≤ (c4 : Int) := by omega
  clear hOm hct hcl hm hln ES
  simp only []
  go_wp2_with fail
  refine Calls.mono CF.out ?_
  rintro e z ⟨a5, c5, rfl, ho, hg⟩
  have FF : Hid (OwS w.heap.size z a5 (shownV cells x).length c5 (shownV cells x) ∧ w.grownBy z none) := ⟨ho.mono H1.out.2.size, grown_trans H1.out.2 hg⟩
  clear ho hg CF H1 q0
  simp only []
  go_wp2
  go_ret
  exact ⟨a5, c5, rfl, FF.out⟩

set_option maxRecDepth 4000 in
set_option maxHeartbeats 2000000 in
theorem implShowT (cells : V) (x : RVal) (a1 : Option Addr) (l1 c1 : Nat) (a2 : Option Addr) (l2 c2 : Nat) (ca : Option Addr) (cl cc : Nat) (w : World) (h : RdVal w x a1 l1 a2 l2) (hle : l1 ≤ c1) (hE : Env w cells ca cl cc) (hsz : szVal x ≤ 1048576) (hok : okX x) :
    Calls Tryd.prog 10 #[.agg #[.int .i64 x.k, .int .i64 x.n, .slice a1 l1 c1, .slice a2 l2 c2], .slice ca cl cc] w fun e u => ∃ a c, e = .returned (.slice a (shownV cells x).length c) ∧ OwS w.heap.size u a (shownV cells x).length c (shownV cells x) ∧ w.grownBy u none := by
  have g0 := World.grownBy_alloc w (.cells #[.int .i64 x.k, .int .i64 x.n, .slice a1 l1 c1, .slice a2 l2 c2] 31) none
  have b0 := heap_alloc_new w (.cells #[.int .i64 x.k, .int .i64 x.n, .slice a1 l1 c1, .slice a2 l2 c2] 31)
  have C0 : Hid _ := lookT w cells x a1 l1 c1 a2 l2 c2 ca cl cc (w.alloc (.cells #[.int .i64 x.k, .int .i64 x.n, .slice a1 l1 c1, .slice a2 l2 c2] 31)) hE.sl hE.cc h.2 hok.1
  have HX : Hid (RdVal w x a1 l1 a2 l2 ∧ Env w cells ca cl cc ∧ szVal x ≤ 1048576 ∧ okX x ∧ l1 ≤ c1) := ⟨h, hE, hsz, hok, hle⟩
  have G0 : Hid _ := g0
  obtain ⟨⟨y0, y1, y2, y3⟩, -⟩ := blkVal b0
  clear g0 b0 h hE hsz hok hle
  go_enter Tryd.func10, Tryd.ntmps10
  go_wp2_with fail
  refine Calls.mono C0.out ?_
  rintro e u ⟨p5, p3, he, hg, hclo⟩
  have gu := grown_trans G0.out hg
  have C1 : Hid _ := shownT cells x a1 l1 c1 p5 p3 ca cl cc u (HX.out.2.1.to gu) (hclo.to (CLe.grown gu)) (HX.out.1.1.none gu) HX.out.2.2.2.2 HX.out.2.2.1 HX.out.2.2.2.1
  have GU : Hid _ := gu
  unfold LkV at he C1
  subst he
  clear C0 G0 hg hclo gu y0 y1 y2 y3 HX
  simp only []
  go_wp2_with fail
  refine Calls.mono C1.out ?_
  rintro e z ⟨a5, c5, rfl, ho, hg⟩
  have FF : Hid (OwS w.heap.size z a5 (shownV cells x).length c5 (shownV cells x) ∧ w.grownBy z none) := ⟨ho.mono GU.out.size, grown_trans GU.out hg⟩
  clear ho hg C1 GU
  simp only []
  go_wp2
  go_ret
  exact ⟨a5, c5, rfl, FF.out⟩
end Go.Proofs.YtpmndefmibnaeaaDoor.By
