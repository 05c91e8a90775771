/-
  impl.bindsOf and impl.BindsOk by their contracts. No statement is proved here.
-/
import Derived.Test.YtmlganaiajhjeaaUT
import Derived.Test.YtmlganaiajhjeaaUG
import Derived.Test.YtmlganaiajhjeaaTSize
namespace Go.Proofs.Ytmlganaiajhjeaa.By
open Go.RowKit
set_option linter.unusedVariables false
set_option linter.unusedSimpArgs false

theorem varsF_range (f : F) : ∀ p, okF f p = true → ∀ x ∈ varsF f, 0 ≤ x ∧ x ≤ 99999 := by
  induction f with
  | nil => intro p _ x hx; simp [varsF] at hx
  | cons k n d r ihd ihr =>
    intro p h x hx
    simp only [okF, Bool.and_eq_true, decide_eq_true_eq] at h
    simp only [varsF, List.mem_append] at hx
    rcases hx with hx | hx
    · by_cases h7 : k = 7
      · subst h7
        simp only [if_true, List.mem_singleton] at hx
        subst hx
        have := h.1.1.2
        rw [fits7] at this
        simp only [Bool.and_eq_true, decide_eq_true_eq] at this
        exact this.2
      · simp only [if_neg h7] at hx
        exact ihd _ h.1.2 x hx
    · exact ihr _ h.2 x hx
theorem vT_range {k n : Int} {d : F} (h : okT k n d = true) : ∀ x ∈ vT k n d, 0 ≤ x ∧ x ≤ 99999 := by
  intro x hx
  simp only [okT, Bool.and_eq_true, decide_eq_true_eq] at h
  unfold vT at hx
  by_cases h7 : k = 7
  · subst h7
    simp only [if_true, List.mem_singleton] at hx
    subst hx
    have := h.1.1
    rw [fits7] at this
    simp only [Bool.and_eq_true, decide_eq_true_eq] at this
    exact this.2
  · rw [if_neg h7] at hx
    exact varsF_range d _ h.1.2 x hx
theorem vT_I64 {k n : Int} {d : F} (h : okT k n d = true) : ∀ x ∈ vT k n d, I64x x := fun x hx => by
  have := vT_range h x hx; unfold I64x; omega
theorem okT_size {k n : Int} {d : F} (h : okT k n d = true) : d.size ≤ 59 := by
  simp only [okT, Bool.and_eq_true, decide_eq_true_eq] at h; omega
theorem grownOfFrS {w u : World} (h : FrS w.heap.size w u) : w.grownBy u none := ⟨h.below.os, h.below.tape, h.below.output, h.below.size, fun k hk _ => h.below.block k hk⟩
theorem makeMapX : ∀ (w : World), (Instr.makeMap 110 none).run Try.prog w = .ok (.map (some w.heap.size)) (w.alloc (.map #[] 0)) := fun w => by
  have := @run_makeMap Try.prog
  first
  | exact this _ _ _ _ Try.underlying110
  | simpa using this 110 w
  | kernel_rfl

def Bof (w : World) (f : B) (e : Ending) (u : World) : Prop :=
  w.grownBy u none ∧ if bindsV f = true then ∃ p m oa oc, e = .returned (.tuple #[.pointer (some ⟨p, 0, none⟩), .bool true]) ∧ BS w.heap.size u p m oa oc f else e = .returned (.tuple #[.pointer none, .bool false])
theorem Bof.no {w u : World} {f : B} (h : bindsV f = false) (hg : w.grownBy u none) : Bof w f (.returned (.tuple #[.pointer none, .bool false])) u := ⟨hg, by rw [h]; simp⟩

set_option maxRecDepth 8000 in
set_option maxHeartbeats 4000000 in
theorem bindsOfT (f : B) (a : Option Addr) (l c : Nat) (w : World) (h : SlBD w 25 44 a l f) :
    Calls Try.prog 54 #[.slice a l c] w fun e u => Bof w f e u := by
  have hl := h.2.1
  have hfl := h.1
  by_cases hlen : ¬ (l ≤ 400)
  · have ev : bindsV f = false := by unfold bindsV; rw [hfl]; simp [hlen]
    go_enter Try.func54, Try.ntmps54
    go_wp2
    go_ret2
    exact Bof.no ev (World.grownBy.refl _ _)
  have hlen := Decidable.not_not.1 hlen
  have EV : Hid (bindsV f = bindsR .nil f) := by show _ = _; unfold bindsV; rw [hfl]; simp [hlen]
  have HS : Hid (SlBD w 25 44 a l f) := h
  have hlen' : ¬ (400 < (l : Int)) := by omega
  have hmk := makeMapX
  obtain ⟨b0, b1, bsz⟩ := alloc2_blocks w (.map #[] 0) (.cells #[.map (some w.heap.size), .slice none 0 0] 112)
  have g0 := grown_alloc (grown_alloc (World.grownBy.refl w none) (.map #[] 0)) (.cells #[.map (some w.heap.size), .slice none 0 0] 112)
  have hBS : BS w.heap.size ((w.alloc (.map #[] 0)).alloc (.cells #[.map (some w.heap.size), .slice none 0 0] 112)) (w.heap.size + 1) w.heap.size none 0 .nil := ⟨b1, OwI.nil _ _, ⟨_, (MapIs.made w).kept (World.grownBy_alloc _ _ none) (by simp), fun x => rfl⟩, by omega, Nat.le_refl _, by rw [bsz]; omega⟩
  have H0 : Hid (w.grownBy ((w.alloc (.map #[] 0)).alloc (.cells #[.map (some w.heap.size), .slice none 0 0] 112)) none ∧ BS w.heap.size ((w.alloc (.map #[] 0)).alloc (.cells #[.map (some w.heap.size), .slice none 0 0] 112)) (w.heap.size + 1) w.heap.size none 0 .nil) := ⟨g0, hBS⟩
  clear h b0 b1 bsz g0 hBS
  go_enter Try.func54, Try.ntmps54
  go_wp2
  generalize (w.alloc (.map #[] 0)).alloc (.cells #[.map (some w.heap.size), .slice none 0 0] 112) = w0 at *
  generalize ep : w.heap.size + 1 = p at *
  clear hmk
  go_loopw [15] (fun i wr => ∃ (j : Nat) (P R : B) (oa : Option Addr) (oc : Nat), j ≤ l ∧ i = .int .i64 j ∧ P.len = j ∧ R.len + j = l ∧ Hid (w.grownBy wr none ∧ BS w.heap.size wr p w.heap.size oa oc P ∧ P.app R = f ∧ bindsR .nil f = bindsR P R)) (fun i _ => l - (intOf i).toNat)
  case atStart => exact ⟨0, .nil, f, none, 0, Nat.zero_le _, rfl, rfl, by omega, H0.out.1, H0.out.2, rfl, rfl⟩
  case round =>
    clear H0
    obtain ⟨j, P, R, oa, oc, hj, rfl, hPl, hRl, HR⟩ := hrel
    by_cases hlt : j < l
    · obtain ⟨q, hq⟩ : ∃ q, R.len = q + 1 := ⟨R.len - 1, by omega⟩
      obtain ⟨vv, kk, nn, d, R', rfl, hR'⟩ := B.cons_of_len hq
      obtain ⟨hg, hbs, happ, hv⟩ := HR.out
      have hsl := HS.out.none hg
      rw [← happ] at hsl
      obtain ⟨b, o, rfl, hin⟩ : ∃ b o, a = some ⟨b, o, none⟩ ∧ InBD wr 25 (P.app (.cons vv kk nn d R')) b o := by
        rcases hsl.2.2 with h0 | ⟨b, o, e, _, h0⟩
        · omega
        · exact ⟨b, o, e, h0⟩
      obtain ⟨⟨a1, l1, x1, hq4, hd⟩, -⟩ := hin.snd
      rw [hPl] at hq4
      obtain ⟨c0, c1, c2, c3⟩ := hq4
      have ga := World.grownBy_alloc wr (.cells #[.int .i64 vv, .int .i64 kk, .int .i64 nn, .slice a1 l1 x1] 44) none
      have FU : Hid (∀ u, (wr.alloc (.cells #[.int .i64 vv, .int .i64 kk, .int .i64 nn, .slice a1 l1 x1] 44)).grownBy u none → w.grownBy u none ∧ Qua wr.heap.size 0 (.int .i64 vv) (.int .i64 kk) (.int .i64 nn) (.slice a1 l1 x1) u ∧ SlD u 25 a1 l1 d ∧ BS w.heap.size u p w.heap.size oa oc P) := fun u hu => ⟨grown_trans (grown_trans hg ga) hu, (four ((hu.block _ (by simp) (by simp)).trans (heap_alloc_new wr _))).1, (hd.none ga).none hu, (hbs.none ga).none hu⟩
      have HV : Hid (P.app (.cons vv kk nn d R') = f ∧ bindsR .nil f = bindsR P (.cons vv kk nn d R')) := ⟨happ, hv⟩
      have hPl4 : P.len ≤ 400 := by omega
      clear HR hg happ hv hsl hin hd ga hbs
      by_cases hv0 : vv < 0
      · have HN : Hid (bindsV f = false ∧ w.grownBy (wr.alloc (.cells #[.int .i64 vv, .int .i64 kk, .int .i64 nn, .slice a1 l1 x1] 44)) none) := ⟨by rw [EV.out, HV.out.2]; exact bindsR_no (okB1_lo hv0), (FU.out _ (World.grownBy.refl _ _)).1⟩
        clear FU
        go_wp2
        go_ret2
        exact Bof.no HN.out.1 HN.out.2
      have hvf : decide (vv < 0) = false := by simp; omega
      by_cases hv1 : ¬ (vv < 100000)
      · have HN : Hid (bindsV f = false ∧ w.grownBy (wr.alloc (.cells #[.int .i64 vv, .int .i64 kk, .int .i64 nn, .slice a1 l1 x1] 44)) none) := ⟨by rw [EV.out, HV.out.2]; exact bindsR_no (okB1_hi hv1), (FU.out _ (World.grownBy.refl _ _)).1⟩
        have hvg : decide (100000 ≤ vv) = true := by simp; omega
        clear FU
        go_wp2
        go_ret2
        exact Bof.no HN.out.1 HN.out.2
      have hv1 := Decidable.not_not.1 hv1
      have hvg : decide (100000 ≤ vv) = false := by simp; omega
      have hvI : I64x vv := by unfold I64x; omega
      have C1 : Hid _ := implTyOkT d kk nn a1 l1 x1 _ (FU.out _ (World.grownBy.refl _ _)).2.2.1.reads
      go_wp2_with fail
      generalize wr.alloc (.cells #[.int .i64 vv, .int .i64 kk, .int .i64 nn, .slice a1 l1 x1] 44) = w1 at *
      generalize wr.heap.size = s at *
      refine Calls.mono C1.out ?_
      rintro e w2 ⟨rfl, hg⟩
      have G2 : Hid (w1.grownBy w2 none) := hg
      clear hg C1 c0 c1 c2 c3
      simp only []
      cases hok : okT kk nn d with
      | false =>
        have HN : Hid (bindsV f = false ∧ w.grownBy w2 none) := ⟨by rw [EV.out, HV.out.2]; exact bindsR_no (okB1_ty hok), (FU.out _ G2.out).1⟩
        clear FU hok
        go_wp2
        go_ret2
        exact Bof.no HN.out.1 HN.out.2
      | true =>
      have HO : Hid (okT kk nn d = true) := hok
      clear hok
      obtain ⟨c0, c1, c2, c3⟩ := (FU.out _ G2.out).2.1
      have C2 : Hid _ := bindsAsk w.heap.size p w.heap.size oa oc P vv hvI w2 (FU.out _ G2.out).2.2.2
      go_wp2_with fail
      refine Calls.mono C2.out ?_
      rintro e w3 ⟨rfl, hg⟩
      have G3 : Hid (w1.grownBy w3 none) := grown_trans G2.out hg
      clear hg C2 c0 c1 c2 c3 G2
      simp only []
      cases hnd : P.dom.contains vv with
      | true =>
        have HN : Hid (bindsV f = false ∧ w.grownBy w3 none) := ⟨by rw [EV.out, HV.out.2]; exact bindsR_no (okB1_twice hnd), (FU.out _ G3.out).1⟩
        clear FU hnd
        go_wp2
        go_ret2
        exact Bof.no HN.out.1 HN.out.2
      | false =>
      have HD : Hid (P.dom.contains vv = false) := hnd
      obtain ⟨c0, c1, c2, c3⟩ := (FU.out _ G3.out).2.1
      have C3 : Hid _ := tryT w.heap.size p w.heap.size oa oc P vv kk nn d a1 l1 x1 w3 (FU.out _ G3.out).2.2.2 (FU.out _ G3.out).2.2.1 hvI hnd (by have := okT_size HO.out; omega) (by omega) (vT_I64 HO.out)
      clear hnd
      go_wp2_with fail
      refine Calls.mono C3.out ?_
      rintro e w4 ⟨rfl, hfr, hbs⟩
      have G4 : Hid (w.grownBy w4 none) := by
        have h0 := (FU.out _ G3.out).1
        exact ⟨hfr.below.os.trans h0.os, hfr.below.tape.trans h0.tape, hfr.below.output.trans h0.output, Nat.le_trans h0.size hfr.below.size, fun i hi _ => (hfr.below.block i hi).trans (h0.block i hi (by simp))⟩
      have HB : Hid ((vT kk nn d).any (badX P vv) = false → ∃ oa' oc', BS w.heap.size w4 p w.heap.size oa' oc' (P.app (.cons vv kk nn d .nil))) := hbs
      clear hfr hbs C3 c0 c1 c2 c3 G3 FU
      simp only []
      cases hany : (vT kk nn d).any (badX P vv) with
      | true =>
        have HN : Hid (bindsV f = false ∧ w.grownBy w4 none) := ⟨by rw [EV.out, HV.out.2]; exact bindsR_no (okB1_var hany), G4.out⟩
        clear hany HB
        go_wp2
        go_ret2
        exact Bof.no HN.out.1 HN.out.2
      | false =>
        obtain ⟨oa', oc', hb4⟩ := HB.out hany
        have HF : Hid (w.grownBy w4 none ∧ BS w.heap.size w4 p w.heap.size oa' oc' (P.app (.cons vv kk nn d .nil)) ∧ (P.app (.cons vv kk nn d .nil)).app R' = f ∧ bindsR .nil f = bindsR (P.app (.cons vv kk nn d .nil)) R') := ⟨G4.out, hb4, by rw [B.app_assoc]; exact HV.out.1, by rw [HV.out.2]; exact bindsR_yes (okB1_yes (by omega) hv1 HO.out HD.out hany)⟩
        have hPl2 : (P.app (.cons vv kk nn d .nil)).len = j + 1 := by rw [B.app_len, hPl]; rfl
        clear HB hany hb4 G4 HV HO HD
        go_wp2
        go_roundw
        case rel => exact ⟨j + 1, _, R', oa', oc', by omega, by go_num, hPl2, by omega, HF⟩
        case measure => simp [intOf]; omega
    · obtain rfl : j = l := by omega
      obtain rfl : R = .nil := B.nil_of_len (by omega)
      have E : Hid (bindsV f = true ∧ w.grownBy wr none ∧ BS w.heap.size wr p w.heap.size oa oc f) := ⟨by rw [EV.out, HR.out.2.2.2]; rfl, HR.out.1, by have := HR.out.2.2.1; rw [B.app_nil] at this; subst this; exact HR.out.2.1⟩
      clear HR
      go_wp2
      go_ret2
      refine ⟨E.out.2.1, ?_⟩
      rw [if_pos E.out.1]
      exact ⟨p, _, oa, oc, rfl, E.out.2.2⟩

set_option maxHeartbeats 400000 in
theorem implBindsOkT (f : B) (a : Option Addr) (l c : Nat) (w : World) (h : SlBD w 25 44 a l f) :
    Calls Try.prog 18 #[.slice a l c] w fun e u => e = .returned (.bool (bindsV f)) ∧ w.grownBy u none := by
  have CC : Hid _ := bindsOfT f a l c w h
  clear h
  go_enter Try.func18, Try.ntmps18
  go_wp2_with fail
  refine Calls.mono CC.out ?_
  rintro e u ⟨hg, he⟩
  have G : Hid (w.grownBy u none) := hg
  clear CC hg
  cases hb : bindsV f with
  | false =>
    rw [hb] at he
    simp only [Bool.false_eq_true, if_false] at he
    subst he
    simp only []
    go_wp2
    go_ret
    exact ⟨by rw [hb]; rfl, G.out⟩
  | true =>
    rw [hb, if_pos rfl] at he
    obtain ⟨p, m, oa, oc, he, -⟩ := he
    subst he
    simp only []
    go_wp2
    go_ret
    exact ⟨by rw [hb]; rfl, G.out⟩
end Go.Proofs.Ytmlganaiajhjeaa.By
