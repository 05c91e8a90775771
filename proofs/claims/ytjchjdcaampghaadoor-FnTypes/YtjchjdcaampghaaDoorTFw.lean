/-
  The walk of laws.FnTypes. No statement is proved here.
-/
import Derived.Test.YtjchjdcaampghaaDoorTFzJ
namespace Go.Proofs.YtjchjdcaampghaaDoor.By
open Go.RowKit
set_option linter.unusedVariables false
set_option linter.unusedSimpArgs false

theorem OwB.grownF {B n c : Nat} {v w u : World} {a : Option Addr} {zs : List Int} (h : OwB B w a n c zs) (hg : w.grownBy u (Value.slice a n c).ownBlock) (h0 : v.grownBy w none) (hA : v.heap.size ≤ B) : v.grownBy u none :=
  ⟨hg.os.trans h0.os, hg.tape.trans h0.tape, hg.output.trans h0.output, Nat.le_trans h0.size hg.size, fun i hi _ => (hg.block i (Nat.lt_of_lt_of_le hi h0.size) (fun e => by have := (h.lt i e.symm).1; omega)).trans (h0.block i hi (by simp))⟩
theorem bytesV_lenF (k n : Int) (d : F) : (bytesV k n d).length ≤ 660 := by
  unfold bytesV
  split
  · rename_i h
    simp only [okT, Bool.and_eq_true, decide_eq_true_eq] at h
    have h1 := headB_len k n d.len
    have h2 := bytesF_len d
    simp only [tyB, List.length_append]; omega
  · simp
theorem tyB_byt {k n : Int} {d : F} (h : okT k n d = true) : Byt (tyB k n d) := by
  simp only [okT, Bool.and_eq_true, decide_eq_true_eq] at h
  intro z hz
  simp only [tyB, List.mem_append] at hz
  exact hz.elim (headB_byt h.1.1 z) (bytesF_byt d 9 h.1.2 z)
theorem ownS_form {w : World} {B N : Nat} {v : Value} {zs : List Int} (h : w.ownsRow B 5 1 v N (vals zs)) : ∃ a2 c2, v = .slice a2 N c2 := by
  rcases h.2 with ⟨rfl, h0⟩ | ⟨g, cap, cur, rfl, _⟩
  · rw [← h0]; exact ⟨_, _, rfl⟩
  · exact ⟨_, _, rfl⟩

theorem OwB.plainF {B n c : Nat} {w : World} {a : Option Addr} {zs : List Int} (h : OwB B w a n c zs) : Plain a := by
  rcases h.1.2 with ⟨e, _⟩ | ⟨g, cap, cur, e, _⟩
  · injection e with e1; exact .inl e1
  · injection e with e1; exact .inr ⟨g, 0, e1⟩
theorem OwB.posF {B n c : Nat} {w : World} {a : Option Addr} {zs : List Int} (h : OwB B w a n c zs) (hn : 0 < n) : ∃ g, a = some ⟨g, 0, none⟩ ∧ n ≤ c := by
  rcases h.1.2 with ⟨_, e⟩ | ⟨g, cap, cur, e, _, _, h1, _⟩
  · omega
  · injection e with e1 e2 e3; exact ⟨g, e1, by omega⟩
theorem OwS.owB {B n c : Nat} {w : World} {a : Option Addr} {zs : List Int} (h : OwS B w a n c zs) : OwB B w a n c zs := h
theorem readsPart {w : World} {g n P E : Nat} {zs : List Int} (h : Reads w (some ⟨g, 0, none⟩) n zs) (h1 : P ≤ E) (h2 : E ≤ n) : Reads w (some ⟨g, P, none⟩) (E - P) ((zs.drop P).take (E - P)) := by
  obtain ⟨hl, h⟩ := h
  refine ⟨by simp; omega, ?_⟩
  rcases h with h | ⟨b, off, e, hc⟩
  · exact .inl (by omega)
  · injection e with e
    injection e with e1 e2
    subst e1 e2
    refine .inr ⟨g, P, rfl, fun i hi => ?_⟩
    have := hc (P + i) (by omega)
    simp only [Nat.zero_add] at this
    rw [this]
    simp only [List.getD_eq_getElem?_getD, List.getElem?_take, List.getElem?_drop]
    rw [if_pos hi]
theorem bytOf {l : List UInt8} : Byt (ofB l) := by
  intro z hz
  simp only [ofB, List.mem_map] at hz
  obtain ⟨x, _, rfl⟩ := hz
  have := x.toNat_lt
  omega
theorem bodyS_byt (k n : Int) (s : List Int) (hs : Byt s) : Byt (bodyS k n s) := by
  have hd : ∀ m, Byt (decB m) := fun m => bytOf
  have hw : Byt (wordB k) := by
    unfold wordB
    intro z hz
    split at hz
    · simp at hz; omega
    · split at hz
      · simp at hz; omega
      · split at hz
        · simp at hz; omega
        · split at hz
          · simp at hz; omega
          · split at hz
            · simp at hz; omega
            · simp at hz; omega
  intro z hz
  simp only [bodyS, List.mem_append] at hz
  rcases hz with hz | hz
  · unfold headS at hz
    split at hz
    · simp only [List.mem_append] at hz
      rcases hz with hz | hz
      · simp at hz; omega
      · exact hd _ z hz
    · split at hz
      · simp only [List.mem_cons] at hz
        rcases hz with hz | hz
        · omega
        · exact hd _ z hz
      · split at hz
        · exact hw z hz
        · simp only [List.mem_cons] at hz
          rcases hz with hz | hz
          · omega
          · exact hw z hz
  · split at hz
    · simp only [List.mem_append, List.mem_singleton] at hz
      rcases hz with hz | hz
      · exact hs z hz
      · omega
    · simp at hz
theorem sayF_byt (f : F) : Byt (sayF f) := by
  induction f with
  | nil => intro z hz; simp [sayF] at hz
  | cons k n d r ih1 ih2 =>
    intro z hz
    simp only [sayF, List.cons_append, List.mem_cons, List.mem_append] at hz
    rcases hz with hz | hz | hz
    · omega
    · exact bodyS_byt k n _ ih1 z hz
    · exact ih2 z hz
theorem sayV_byt (k n : Int) (d : F) : Byt (sayV k n d) := by
  unfold sayV
  split
  · exact bodyS_byt k n _ (sayF_byt d)
  · intro z hz; simp at hz
theorem say_eqV {k n k' n' : Int} {d d' : F} (hf : okT k n d = true) (hg : okT k' n' d' = true) : decide (sayV k n d = sayV k' n' d') = eqV k n d k' n' d' := by
  unfold sayV
  rw [if_pos hf, if_pos hg]
  by_cases h : sayT k n d = sayT k' n' d'
  · obtain ⟨rfl, rfl, rfl⟩ := sayT_inj hf hg h
    simp [eqV, eqB_iff]
  · rw [decide_eq_false h]
    symm
    rw [Bool.eq_false_iff]
    intro he
    simp only [eqV, Bool.and_eq_true, decide_eq_true_eq, eqB_iff] at he
    obtain ⟨rfl, rfl, rfl⟩ := he
    exact h rfl


set_option maxRecDepth 8000 in
set_option maxHeartbeats 8000000 in
theorem lawTypes (a : Option Addr) (n cap : Nat) (zs : List Int) (w : World) (hr : Reads w a n zs) (hz : Byt zs) (hn : n ≤ 9223372036854775807) (hTab : ∀ u, w.grownBy u none → Lib.TabIs Tryd.prog u "internal/strconv.uint64pow10" .u64 Lib.pow10Tab) :
    Calls Tryd.prog 3 #[.slice a n cap] w fun e u => e = .returned (.bool true) ∧ w.grownBy u none := by
  obtain ⟨i0, hi, hz0, hz1, hz2⟩ := info_parts info5
  have HR : Hid (Reads w a n zs ∧ Byt zs) := ⟨hr, hz⟩
  have HT : Hid _ := hTab
  have C1 : Hid _ := drawOneT a n cap zs w hr hz hn
  clear hr hz hTab
  go_enter Tryd.func3, Tryd.ntmps3
  go_wp2_with fail
  refine Calls.mono C1.out ?_
  rintro e w1 ⟨k, m, f, a1, l1, c1, bs, he, hg, hnw, hfs⟩
  subst he
  clear C1
  have ga := World.grownBy_alloc w1 (.cells #[.int .i64 k, .int .i64 m, .slice a1 l1 c1] 25) none
  have L1 : Hid (w.grownBy (w1.alloc (.cells #[.int .i64 k, .int .i64 m, .slice a1 l1 c1] 25)) none ∧ (w1.alloc (.cells #[.int .i64 k, .int .i64 m, .slice a1 l1 c1] 25)).heap[w1.heap.size]? = some (Obj.cells #[.int .i64 k, .int .i64 m, .slice a1 l1 c1] 25) ∧ SlF (w1.alloc (.cells #[.int .i64 k, .int .i64 m, .slice a1 l1 c1] 25)) a1 l1 f) := ⟨grown_trans hg ga, heap_alloc_new w1 _, (hnw.1.old ga).reads⟩
  clear hg hnw ga
  simp only []
  go_wp2_with fail
  generalize w1.alloc (.cells #[.int .i64 k, .int .i64 m, .slice a1 l1 c1] 25) = w2 at *
  generalize w1.heap.size = p at *
  refine Calls.mono (implTyBytesT f k m a1 l1 c1 w2 L1.out.2.2) ?_
  rintro e w3 ⟨ag, cg, he, hg, hO⟩
  subst he
  have L2 : Hid (w.grownBy w3 none ∧ w3.heap[p]? = some (Obj.cells #[.int .i64 k, .int .i64 m, .slice a1 l1 c1] 25) ∧ SlF w3 a1 l1 f ∧ OwB w2.heap.size w3 ag (bytesV k m f).length cg (bytesV k m f)) := ⟨grown_trans L1.out.1 hg, (hg.block _ (lt_of_block L1.out.2.1) (by simp)).trans L1.out.2.1, L1.out.2.2.none hg, hO⟩
  have P2 : Hid (w.heap.size ≤ w2.heap.size ∧ p < w2.heap.size ∧ SlF w2 a1 l1 f ∧ w2.heap.size ≤ w3.heap.size ∧ Below w2.heap.size w2 w3) := ⟨L1.out.1.size, lt_of_block L1.out.2.1, L1.out.2.2, hg.size, (Below.refl _ _).grown hg (Nat.le_refl _) (fun k hk => by cases hk)⟩
  clear hg hO L1
  obtain ⟨⟨x0, x1, x2⟩, -⟩ := three L2.out.2.1
  simp only []
  go_wp2_with fail
  refine Calls.mono (specTyOkT f k m a1 l1 c1 w3 L2.out.2.2.1) ?_
  rintro e w4 ⟨he, hg⟩
  subst he
  have L3 : Hid (w.grownBy w4 none ∧ w4.heap[p]? = some (Obj.cells #[.int .i64 k, .int .i64 m, .slice a1 l1 c1] 25) ∧ SlF w4 a1 l1 f ∧ OwB w2.heap.size w4 ag (bytesV k m f).length cg (bytesV k m f)) := ⟨grown_trans L2.out.1 hg, (hg.block _ (lt_of_block L2.out.2.1) (by simp)).trans L2.out.2.1, L2.out.2.2.1.none hg, L2.out.2.2.2.kept hg⟩
  have P3 : Hid (w2.heap.size ≤ w4.heap.size ∧ Below w2.heap.size w2 w4) := ⟨Nat.le_trans P2.out.2.2.2.1 hg.size, P2.out.2.2.2.2.grown hg P2.out.2.2.2.1 (fun k hk => by cases hk)⟩
  clear hg L2 x0 x1 x2
  simp only []
  go_upto_if 18 with fail
  go_cut [4] (fun s4 wx => Hid (w.grownBy wx none))
  case first =>
    have HL : Hid ((bytesV k m f).length ≤ 660) := bytesV_lenF k m f
    cases hok : okT k m f with
    | false =>
      have e0 : bytesV k m f = [] := by unfold bytesV; rw [hok]; rfl
      have L4 : Hid (w.grownBy w4 none ∧ w4.heap[p]? = some (Obj.cells #[.int .i64 k, .int .i64 m, .slice a1 l1 c1] 25)) := ⟨L3.out.1, L3.out.2.1⟩
      have C4 : Hid _ := implTyOkT f k m a1 l1 c1 w4 L3.out.2.2.1
      rw [hok] at C4
      obtain ⟨⟨x0, x1, x2⟩, -⟩ := three L4.out.2
      clear L3 HL
      rw [e0]
      clear e0
      go_wp2_with fail
      refine Calls.mono C4.out ?_
      rintro e w5 ⟨he, hg⟩
      subst he
      have L5 : Hid (w.grownBy w5 none) := grown_trans L4.out.1 hg
      clear hg L4 C4 x0 x1 x2
      simp only []
      go_wp2
      go_meet
      exact L5
    | true =>
      have ga := World.grownBy_alloc w4 (.cells #[.int .u8 9] 5) none
      have L4 : Hid ((w4.alloc (.cells #[.int .u8 9] 5)).ownsRow w2.heap.size 5 1 (.slice ag (bytesV k m f).length cg) (bytesV k m f).length (vals (bytesV k m f)) ∧ Reads (w4.alloc (.cells #[.int .u8 9] 5)) (some ⟨w4.heap.size, 0, none⟩) 1 [9] ∧ w2.heap.size ≤ (w4.alloc (.cells #[.int .u8 9] 5)).heap.size) := ⟨(L3.out.2.2.2.kept ga).1, readsOneB w4 9 5, Nat.le_trans P3.out.1 ga.size⟩
      have L3' : Hid (w.grownBy (w4.alloc (.cells #[.int .u8 9] 5)) none ∧ (w4.alloc (.cells #[.int .u8 9] 5)).heap[p]? = some (Obj.cells #[.int .i64 k, .int .i64 m, .slice a1 l1 c1] 25) ∧ OwB w2.heap.size (w4.alloc (.cells #[.int .u8 9] 5)) ag (bytesV k m f).length cg (bytesV k m f) ∧ Below w2.heap.size w2 (w4.alloc (.cells #[.int .u8 9] 5))) := ⟨grown_trans L3.out.1 ga, (ga.block _ (lt_of_block L3.out.2.1) (by simp)).trans L3.out.2.1, L3.out.2.2.2.kept ga, P3.out.2.grown ga P3.out.1 (fun k hk => by cases hk)⟩
      clear ga L3
      have hlen := HL.out
      go_wp2_with (at_builtin; go_must (refine wpList_appB rfl (.tmp 20) (.tmp 21) 22 rfl w2.heap.size i0 (.int .u8 0) Tryd.underlying22 hi hz0 hz1 hz2 rfl (.slice ag (bytesV k m f).length cg) (bytesV k m f).length (bytesV k m f) rfl L4.out.1 (some ⟨w4.heap.size, 0, none⟩) 1 1 [9] rfl L4.out.2.1 (by simp) (by omega) L4.out.2.2 ?_); intro v5 w5 o5 g5 n5)
      obtain ⟨a5, c5, hv5⟩ := ownS_form o5
      subst hv5
      have ebv : bytesV k m f = tyB k m f := by unfold bytesV; rw [hok]; rfl
      have L5 : Hid (w.grownBy w5 none ∧ w5.heap[p]? = some (Obj.cells #[.int .i64 k, .int .i64 m, .slice a1 l1 c1] 25) ∧ SlF w5 a1 l1 f ∧ Reads w5 a5 ((bytesV k m f).length + 1) (tyB k m f ++ [9])) := by
        obtain ⟨q1, q2, q3, q4⟩ := L3'.out
        refine ⟨q3.grownF g5 q1 P2.out.1, ?_, P2.out.2.2.1.below (q4.grown g5 L4.out.2.2 (fun k hk => (q3.lt k hk).1)), ?_⟩
        · refine (g5.block _ (lt_of_block q2) ?_).trans q2
          intro e
          have := (q3.lt p e.symm).1
          have := P2.out.2.1
          omega
        · have : OwB w2.heap.size w5 a5 ((bytesV k m f).length + 1) c5 (bytesV k m f ++ [9]) := ⟨o5, by simp⟩
          rw [ebv] at this ⊢
          exact this.reads
      have C5 := implTyReadT a5 ((bytesV k m f).length + 1) c5 (tyB k m f ++ [9]) (fun z hz => (List.mem_append.1 hz).elim (tyB_byt hok z) (fun h => by simp at h; omega)) (by omega) 0 w5 L5.out.2.2.2 (by omega)
      have ER : readV (tyB k m f ++ [9]) 0 = (k, m, f, ((tyB k m f).length : Int)) := by
        have := readV_back hok [] [9]
        simpa using this
      rw [ER] at C5
      have HC5 : Hid _ := C5
      have HE : Hid ((bytesV k m f).length = (tyB k m f).length) := by show _ = _; rw [ebv]
      clear C5 ER o5 g5 n5 L4 L3' ebv
      refine Calls.mono HC5.out ?_
      rintro e w6 ⟨a6, l6, c6, bs6, he, hg, hn6⟩
      subst he
      have ga := World.grownBy_alloc w6 (.cells #[.int .i64 k, .int .i64 m, .slice a6 l6 c6] 25) none
      have L6 : Hid (w.grownBy (w6.alloc (.cells #[.int .i64 k, .int .i64 m, .slice a6 l6 c6] 25)) none ∧ (w6.alloc (.cells #[.int .i64 k, .int .i64 m, .slice a6 l6 c6] 25)).heap[p]? = some (Obj.cells #[.int .i64 k, .int .i64 m, .slice a1 l1 c1] 25) ∧ SlF (w6.alloc (.cells #[.int .i64 k, .int .i64 m, .slice a6 l6 c6] 25)) a1 l1 f ∧ (w6.alloc (.cells #[.int .i64 k, .int .i64 m, .slice a6 l6 c6] 25)).heap[w6.heap.size]? = some (Obj.cells #[.int .i64 k, .int .i64 m, .slice a6 l6 c6] 25) ∧ SlF (w6.alloc (.cells #[.int .i64 k, .int .i64 m, .slice a6 l6 c6] 25)) a6 l6 f) := ⟨grown_trans L5.out.1 (grown_trans hg ga), (ga.block _ (Nat.lt_of_lt_of_le (lt_of_block L5.out.2.1) hg.size) (by simp)).trans ((hg.block _ (lt_of_block L5.out.2.1) (by simp)).trans L5.out.2.1), (L5.out.2.2.1.none hg).none ga, heap_alloc_new w6 _, (hn6.1.old ga).reads⟩
      clear hg hn6 ga L5 HC5
      rw [HE.out]
      have HS6 : Hid (okT k m f = true ∧ eqV k m f k m f = true) := ⟨hok, by simp [eqV, eqB_iff]⟩
      have hN0 := HL.out
      rw [HE.out] at hN0
      clear HE HL hok hlen
      generalize (tyB k m f).length = N at *
      have Q1 := three L6.out.2.1
      have Q2 := three L6.out.2.2.2.1
      obtain ⟨⟨x0, x1, x2⟩, -⟩ := Q1
      obtain ⟨⟨y0, y1, y2⟩, -⟩ := Q2
      simp only []
      go_wp2_with fail
      generalize w6.alloc (.cells #[.int .i64 k, .int .i64 m, .slice a6 l6 c6] 25) = w7 at *
      generalize w6.heap.size = q at *
      refine Calls.mono (sameTyT (f.size + 1) f f k m k m a6 a1 l6 c6 l1 c1 w7 (Nat.lt_succ_self _) L6.out.2.2.2.2 L6.out.2.2.1) ?_
      rintro e w8 ⟨he, hg⟩
      rw [HS6.out.2] at he
      subst he
      have L7 : Hid (w.grownBy w8 none ∧ w8.heap[p]? = some (Obj.cells #[.int .i64 k, .int .i64 m, .slice a1 l1 c1] 25) ∧ SlF w8 a1 l1 f) := ⟨grown_trans L6.out.1 hg, (hg.block _ (lt_of_block L6.out.2.1) (by simp)).trans L6.out.2.1, L6.out.2.2.1.none hg⟩
      clear hg L6 x0 x1 x2 y0 y1 y2
      obtain ⟨⟨x0, x1, x2⟩, -⟩ := three L7.out.2.1
      simp only []
      go_wp2_with fail
      refine Calls.mono (implTySizeT f k m a1 l1 c1 w8 L7.out.2.2) ?_
      rintro e w9 ⟨he, hg⟩
      rw [tyV_ok HS6.out.1] at he
      subst he
      have L8 : Hid (w.grownBy w9 none) := grown_trans L7.out.1 hg
      clear hg L7 x0 x1 x2
      have hs1 : ¬ (((1 + f.size : Nat) : Int) < 1) := by omega
      generalize ((1 + f.size : Nat) : Int) = S at *
      simp only []
      go_wp2
      go_meet
      exact L8
  case rest =>
  clear L3 P3 P2 hfs
  have C2 := drawReadT a n cap zs wc (HR.out.1.none hcut.out) HR.out.2 hn
  have HW : Hid (w.grownBy wc none) := hcut
  have HC2 : Hid _ := C2
  clear C2 hcut
  go_wp2_with fail
  refine Calls.mono HC2.out ?_
  rintro e y1 ⟨va, ys, fr, he, hyl, hM, hfr, hg⟩
  subst he
  obtain ⟨av, cv, hva⟩ := hM.formX
  subst hva
  have M1 : Hid (w.grownBy y1 none ∧ OwB wc.heap.size y1 av ys.length cv ys ∧ Byt ys) := ⟨grown_trans HW.out hg, ⟨hM.1, rfl⟩, hM.2⟩
  clear hM hg HC2 HW
  generalize eN : ys.length = N at *
  have EN : Hid (ys.length = N) := eN
  clear eN
  have HC3 : Hid _ := implTyReadT av N cv ys M1.out.2.2 (by omega) fr y1 M1.out.2.1.reads hfr.2
  simp only []
  go_wp2_with fail
  refine Calls.mono HC3.out ?_
  rintro e y2 ⟨a6, l6, c6, bs6, he, hg, hn6⟩
  subst he
  have HJ : Hid (0 ≤ (readV ys fr).2.2.2 → okT (readV ys fr).1 (readV ys fr).2.1 (readV ys fr).2.2.1 = true ∧ Jst ys fr (readV ys fr).2.2.2 (tyB (readV ys fr).1 (readV ys fr).2.1 (readV ys fr).2.2.1)) := fun h => readV_just M1.out.2.2 h
  generalize readV ys fr = R at *
  obtain ⟨k, m, f, en⟩ := R
  simp only [] at hn6 HJ ⊢
  have ga := World.grownBy_alloc y2 (.cells #[.int .i64 k, .int .i64 m, .slice a6 l6 c6] 25) none
  have M2 : Hid (w.grownBy (y2.alloc (.cells #[.int .i64 k, .int .i64 m, .slice a6 l6 c6] 25)) none ∧ OwB wc.heap.size (y2.alloc (.cells #[.int .i64 k, .int .i64 m, .slice a6 l6 c6] 25)) av N cv ys ∧ (y2.alloc (.cells #[.int .i64 k, .int .i64 m, .slice a6 l6 c6] 25)).heap[y2.heap.size]? = some (Obj.cells #[.int .i64 k, .int .i64 m, .slice a6 l6 c6] 25) ∧ SlF (y2.alloc (.cells #[.int .i64 k, .int .i64 m, .slice a6 l6 c6] 25)) a6 l6 f ∧ Byt ys) := ⟨grown_trans M1.out.1 (grown_trans hg ga), (M1.out.2.1.kept hg).kept ga, heap_alloc_new y2 _, (hn6.1.old ga).reads, M1.out.2.2⟩
  clear hg hn6 ga M1 HC3
  go_upto_region 11 with fail
  generalize y2.alloc (.cells #[.int .i64 k, .int .i64 m, .slice a6 l6 c6] 25) = y3 at *
  generalize y2.heap.size = q at *
  go_cut [70] (fun s wx => s = .bool false ∧ Hid (w.grownBy wx none))
  case first =>
    go_wp2_with fail
    by_cases hen : 0 ≤ en
    · obtain ⟨hok, P, E, rfl, rfl, hPE, hE, htk⟩ := HJ.out hen
      have hcut : (ys.drop P).take (E - P) = tyB k m f := by
        have := Jst.cut (⟨P, E, rfl, rfl, hPE, hE, htk⟩ : Jst ys (P : Int) (E : Int) (tyB k m f))
        simpa using this
      have hlt : P < E := by
        have h1 := congrArg List.length htk
        have h2 : 1 ≤ (tyB k m f).length := by
          simp only [tyB, headB, List.length_append]
          split <;> simp <;> omega
        simp only [List.length_append, List.length_take] at h1
        omega
      rw [EN.out] at hE
      have ebv : bytesV k m f = tyB k m f := by unfold bytesV; rw [hok]; rfl
      obtain ⟨gy, hgy, hcv⟩ := M2.out.2.1.posF (by omega)
      subst hgy
      have MD : Hid (w.grownBy y3.drew none ∧ Reads y3.drew (some ⟨gy, P, none⟩) (E - P) (bytesV k m f) ∧ y3.drew.heap[q]? = some (Obj.cells #[.int .i64 k, .int .i64 m, .slice a6 l6 c6] 25) ∧ SlF y3.drew a6 l6 f) := by
        have gd : y3.grownBy y3.drew none := grown_drew (World.grownBy.refl _ _)
        refine ⟨grown_trans M2.out.1 gd, ?_, (gd.block _ (lt_of_block M2.out.2.2.1) (by simp)).trans M2.out.2.2.1, M2.out.2.2.2.1.none gd⟩
        rw [ebv, ← hcut]
        exact (readsPart M2.out.2.1.reads hPE hE).none gd
      have HB : Hid (Byt (bytesV k m f)) := by show Byt _; rw [ebv]; exact tyB_byt hok
      have hEc : E ≤ cv := by omega
      have hcP : cv ≠ P := by omega
      have hP0 : ((P : Int)).toNat = P := by omega
      have hE0 : ((E : Int)).toNat = E := by omega
      have hb : decide ((0 : Int) ≤ (E : Int)) = true := by simp
      clear htk hcut ebv hok HJ M2 EN hen
      refine wp_region_held_drew (S := (fun u => Tri q 0 (.int .i64 k) (.int .i64 m) (.slice a6 l6 c6) u)) (by kernel_rfl) (three MD.out.2.2.1).1 (fun hH => ?_)
      generalize y3.drew = t0 at *
      simp only [List.size_toArray, List.length_cons, List.length_nil, Nat.reduceAdd, Array.replicate, List.replicate]
      refine wpAnyH_take (i := 0) (v := ?_) rfl (by kernel_rfl) (by kernel_rfl) (by kernel_rfl) (fun _ _ _ h => h) (Or.inl ⟨by rfl, ?_⟩) hH ?_
      rotate_left
      · (intro v hS; obtain ⟨s0, s1, s2⟩ := hS; go_simp; try with_reducible rfl)
      simp only [Act.put, List.setIfInBounds_toArray, List.set_cons_zero, List.set_cons_succ, List.getElem_toArray, List.getElem_cons_succ, List.getElem_cons_zero]
      refine wpAnyH_take (i := 1) (v := ?_) rfl (by kernel_rfl) (by kernel_rfl) (by kernel_rfl) (fun _ _ _ h => h) (Or.inl ⟨by rfl, ?_⟩) hH ?_
      rotate_left
      · (intro v hS; obtain ⟨s0, s1, s2⟩ := hS; go_simp; try with_reducible rfl)
      simp only [Act.put, List.setIfInBounds_toArray, List.set_cons_zero, List.set_cons_succ, List.getElem_toArray, List.getElem_cons_succ, List.getElem_cons_zero]
      refine wpAnyH_take (i := 2) (v := ?_) rfl (by kernel_rfl) (by kernel_rfl) (by kernel_rfl) (fun _ _ _ h => h) (Or.inl ⟨by rfl, ?_⟩) hH ?_
      rotate_left
      · (intro v hS; obtain ⟨s0, s1, s2⟩ := hS; go_simp; try with_reducible rfl)
      simp only [Act.put, List.setIfInBounds_toArray, List.set_cons_zero, List.set_cons_succ, List.getElem_toArray, List.getElem_cons_succ, List.getElem_cons_zero]
      refine wpAnyH_take (i := 3) (v := ?_) rfl (by kernel_rfl) (by kernel_rfl) (by kernel_rfl) (fun _ _ _ h => h) (Or.inl ⟨by rfl, ?_⟩) hH ?_
      rotate_left
      · (intro v hS; obtain ⟨s0, s1, s2⟩ := hS; go_simp; try with_reducible rfl)
      simp only [Act.put, List.setIfInBounds_toArray, List.set_cons_zero, List.set_cons_succ, List.getElem_toArray, List.getElem_cons_succ, List.getElem_cons_zero]
      refine wpAnyH_take (i := 5) (v := ?_) rfl (by kernel_rfl) (by kernel_rfl) (by kernel_rfl) (fun _ _ _ h => h) (Or.inl ⟨by rfl, ?_⟩) hH ?_
      rotate_left
      · (intro v hS; obtain ⟨s0, s1, s2⟩ := hS; go_simp; try with_reducible rfl)
      simp only [Act.put, List.setIfInBounds_toArray, List.set_cons_zero, List.set_cons_succ, List.getElem_toArray, List.getElem_cons_succ, List.getElem_cons_zero]
      refine wpAnyH_take (i := 6) (v := ?_) rfl (by kernel_rfl) (by kernel_rfl) (by kernel_rfl) (fun _ _ _ h => h) (Or.inl ⟨by rfl, ?_⟩) hH ?_
      rotate_left
      · (intro v hS; obtain ⟨s0, s1, s2⟩ := hS; go_simp; try with_reducible rfl)
      simp only [Act.put, List.setIfInBounds_toArray, List.set_cons_zero, List.set_cons_succ, List.getElem_toArray, List.getElem_cons_succ, List.getElem_cons_zero]
      refine wpAnyH_take (i := 7) (v := ?_) rfl (by kernel_rfl) (by kernel_rfl) (by kernel_rfl) (fun _ _ _ h => h) (Or.inl ⟨by rfl, ?_⟩) hH ?_
      rotate_left
      · (intro v hS; obtain ⟨s0, s1, s2⟩ := hS; go_simp; try with_reducible rfl)
      simp only [Act.put, List.setIfInBounds_toArray, List.set_cons_zero, List.set_cons_succ, List.getElem_toArray, List.getElem_cons_succ, List.getElem_cons_zero]
      refine wpAnyH_take (i := 8) (v := ?_) rfl (by kernel_rfl) (by kernel_rfl) (by kernel_rfl) (fun _ _ _ h => h) (Or.inl ⟨by rfl, ?_⟩) hH ?_
      rotate_left
      · (intro v hS; obtain ⟨s0, s1, s2⟩ := hS; go_simp; try with_reducible rfl)
      simp only [Act.put, List.setIfInBounds_toArray, List.set_cons_zero, List.set_cons_succ, List.getElem_toArray, List.getElem_cons_succ, List.getElem_cons_zero]
      refine wpAnyH_ready (rs := [4]) (by kernel_rfl) (by simp) ?_
      refine AllReadyH.cons rfl (fun K hK => ?_) AllReadyH.nil
      go_simp
      refine Calls.mono (implTyBytesT f k m a6 l6 c6 t0 MD.out.2.2.2) ?_
      rintro e t1 ⟨ag, cg, he, hg, hO⟩
      subst he
      have ME : Hid (w.grownBy t1 none ∧ Reads t1 (some ⟨gy, P, none⟩) (E - P) (bytesV k m f) ∧ t1.heap[q]? = some (Obj.cells #[.int .i64 k, .int .i64 m, .slice a6 l6 c6] 25) ∧ OwB t0.heap.size t1 ag (bytesV k m f).length cg (bytesV k m f)) := ⟨grown_trans MD.out.1 hg, MD.out.2.1.none hg, (hg.block _ (lt_of_block MD.out.2.2.1) (by simp)).trans MD.out.2.2.1, hO⟩
      refine hK.out _ _ (three ME.out.2.2.1).1 (fun hH2 => ?_)
      clear hg hO MD
      clear hK K hH
      have hH := hH2
      clear hH2
      simp only [Act.put, List.setIfInBounds_toArray, List.set_cons_zero, List.set_cons_succ, List.getElem_toArray, List.getElem_cons_succ, List.getElem_cons_zero]
      refine wpAnyH_ready (rs := [9]) (by kernel_rfl) (by simp) ?_
      refine AllReadyH.cons rfl (fun K hK => ?_) AllReadyH.nil
      go_simp
      refine Calls.mono (sameG ag (some ⟨gy, P, none⟩) (bytesV k m f).length (E - P) cg _ (bytesV k m f) (bytesV k m f) t1 ME.out.2.2.2.reads ME.out.2.1 HB.out HB.out ME.out.2.2.2.plainF (.inr ⟨gy, P, rfl⟩)) ?_
      rintro e t2 ⟨he, hw2⟩
      rw [decide_eq_true rfl] at he
      subst he hw2
      refine hK.out _ _ (three ME.out.2.2.1).1 (fun hH2 => ?_)
      clear hK K hH
      have hH := hH2
      clear hH2
      simp only [Act.put, List.setIfInBounds_toArray, List.set_cons_zero, List.set_cons_succ, List.getElem_toArray, List.getElem_cons_succ, List.getElem_cons_zero]
      refine wpAnyH_take (i := 10) (v := ?_) rfl (by kernel_rfl) (by kernel_rfl) (by kernel_rfl) (fun _ _ _ h => h) (Or.inl ⟨by rfl, ?_⟩) hH ?_
      rotate_left
      · (intro v hS; go_simp; try with_reducible rfl)
      simp only [Act.put, List.setIfInBounds_toArray, List.set_cons_zero, List.set_cons_succ, List.getElem_toArray, List.getElem_cons_succ, List.getElem_cons_zero]
      refine wpAnyH_take (i := 11) (v := ?_) rfl (by kernel_rfl) (by kernel_rfl) (by kernel_rfl) (fun _ _ _ h => h) (Or.inl ⟨by rfl, ?_⟩) hH ?_
      rotate_left
      · (intro v hS; go_simp; try with_reducible rfl)
      simp only [Act.put, List.setIfInBounds_toArray, List.set_cons_zero, List.set_cons_succ, List.getElem_toArray, List.getElem_cons_succ, List.getElem_cons_zero]
      refine wpAnyH_done (by kernel_rfl) ?_ _
      clear hH
      go_wp2
      go_meet
      case rel => exact ⟨rfl, ME.out.1⟩
    · have hb : decide ((0 : Int) ≤ en) = false := by simpa using hen
      have MD : Hid (w.grownBy y3.drew none) := grown_trans M2.out.1 (grown_drew (World.grownBy.refl _ _))
      clear M2 HJ EN
      refine wp_region_held_drew (S := (fun _ => True)) (by kernel_rfl) trivial (fun hH => ?_)
      generalize y3.drew = t0 at *
      simp only [List.size_toArray, List.length_cons, List.length_nil, Nat.reduceAdd, Array.replicate, List.replicate]
      refine wpAnyH_take (i := 0) (v := ?_) rfl (by kernel_rfl) (by kernel_rfl) (by kernel_rfl) (fun _ _ _ h => h) (Or.inl ⟨by rfl, ?_⟩) hH ?_
      rotate_left
      · (intro v hS; go_simp; try with_reducible rfl)
      simp only [Act.put, List.setIfInBounds_toArray, List.set_cons_zero, List.set_cons_succ, List.getElem_toArray, List.getElem_cons_succ, List.getElem_cons_zero]
      refine wpAnyH_take (i := 1) (v := ?_) rfl (by kernel_rfl) (by kernel_rfl) (by kernel_rfl) (fun _ _ _ h => h) (Or.inl ⟨by rfl, ?_⟩) hH ?_
      rotate_left
      · (intro v hS; go_simp; try with_reducible rfl)
      simp only [Act.put, List.setIfInBounds_toArray, List.set_cons_zero, List.set_cons_succ, List.getElem_toArray, List.getElem_cons_succ, List.getElem_cons_zero]
      refine wpAnyH_take (i := 2) (v := ?_) rfl (by kernel_rfl) (by kernel_rfl) (by kernel_rfl) (fun _ _ _ h => h) (Or.inl ⟨by rfl, ?_⟩) hH ?_
      rotate_left
      · (intro v hS; go_simp; try with_reducible rfl)
      simp only [Act.put, List.setIfInBounds_toArray, List.set_cons_zero, List.set_cons_succ, List.getElem_toArray, List.getElem_cons_succ, List.getElem_cons_zero]
      refine wpAnyH_take (i := 3) (v := undef) rfl (by kernel_rfl) (by kernel_rfl) (by kernel_rfl) (fun _ _ _ h => h) (Or.inr ⟨by rfl, rfl⟩) hH ?_
      simp only [Act.put, List.setIfInBounds_toArray, List.set_cons_zero, List.set_cons_succ, List.getElem_toArray, List.getElem_cons_succ, List.getElem_cons_zero]
      refine wpAnyH_take (i := 4) (v := undef) rfl (by kernel_rfl) (by kernel_rfl) (by kernel_rfl) (fun _ _ _ h => h) (Or.inr ⟨by rfl, rfl⟩) hH ?_
      simp only [Act.put, List.setIfInBounds_toArray, List.set_cons_zero, List.set_cons_succ, List.getElem_toArray, List.getElem_cons_succ, List.getElem_cons_zero]
      refine wpAnyH_take (i := 5) (v := undef) rfl (by kernel_rfl) (by kernel_rfl) (by kernel_rfl) (fun _ _ _ h => h) (Or.inr ⟨by rfl, rfl⟩) hH ?_
      simp only [Act.put, List.setIfInBounds_toArray, List.set_cons_zero, List.set_cons_succ, List.getElem_toArray, List.getElem_cons_succ, List.getElem_cons_zero]
      refine wpAnyH_take (i := 6) (v := undef) rfl (by kernel_rfl) (by kernel_rfl) (by kernel_rfl) (fun _ _ _ h => h) (Or.inr ⟨by rfl, rfl⟩) hH ?_
      simp only [Act.put, List.setIfInBounds_toArray, List.set_cons_zero, List.set_cons_succ, List.getElem_toArray, List.getElem_cons_succ, List.getElem_cons_zero]
      refine wpAnyH_take (i := 7) (v := undef) rfl (by kernel_rfl) (by kernel_rfl) (by kernel_rfl) (fun _ _ _ h => h) (Or.inr ⟨by rfl, rfl⟩) hH ?_
      simp only [Act.put, List.setIfInBounds_toArray, List.set_cons_zero, List.set_cons_succ, List.getElem_toArray, List.getElem_cons_succ, List.getElem_cons_zero]
      refine wpAnyH_take (i := 8) (v := undef) rfl (by kernel_rfl) (by kernel_rfl) (by kernel_rfl) (fun _ _ _ h => h) (Or.inr ⟨by rfl, rfl⟩) hH ?_
      simp only [Act.put, List.setIfInBounds_toArray, List.set_cons_zero, List.set_cons_succ, List.getElem_toArray, List.getElem_cons_succ, List.getElem_cons_zero]
      refine wpAnyH_take (i := 9) (v := undef) rfl (by kernel_rfl) (by kernel_rfl) (by kernel_rfl) (fun _ _ _ h => h) (Or.inr ⟨by rfl, rfl⟩) hH ?_
      simp only [Act.put, List.setIfInBounds_toArray, List.set_cons_zero, List.set_cons_succ, List.getElem_toArray, List.getElem_cons_succ, List.getElem_cons_zero]
      refine wpAnyH_take (i := 10) (v := undef) rfl (by kernel_rfl) (by kernel_rfl) (by kernel_rfl) (fun _ _ _ h => h) (Or.inr ⟨by rfl, rfl⟩) hH ?_
      simp only [Act.put, List.setIfInBounds_toArray, List.set_cons_zero, List.set_cons_succ, List.getElem_toArray, List.getElem_cons_succ, List.getElem_cons_zero]
      refine wpAnyH_take (i := 11) (v := ?_) rfl (by kernel_rfl) (by kernel_rfl) (by kernel_rfl) (fun _ _ _ h => h) (Or.inl ⟨by rfl, ?_⟩) hH ?_
      rotate_left
      · (intro v hS; go_simp; try with_reducible rfl)
      simp only [Act.put, List.setIfInBounds_toArray, List.set_cons_zero, List.set_cons_succ, List.getElem_toArray, List.getElem_cons_succ, List.getElem_cons_zero]
      refine wpAnyH_done (by kernel_rfl) ?_ _
      clear hH
      go_wp2
      go_meet
      case rel => exact ⟨rfl, MD⟩
  case rest =>
  obtain ⟨rfl, HW⟩ := hcut
  clear M2 HJ EN
  have HC4 : Hid _ := drawEqT a n cap zs wc (HR.out.1.none HW.out) HR.out.2 hn
  go_wp2_with fail
  refine Calls.mono HC4.out ?_
  rintro e z1 ⟨k1, m1, f1, b1, h1, d1, bs1, k2, m2, f2, b2, h2, d2, bs2, he, hg, hN1, hN2, -, -⟩
  subst he
  have g0 := grown_alloc (grown_alloc (World.grownBy.refl z1 none) (.cells #[.int .i64 k1, .int .i64 m1, .slice b1 h1 d1] 25)) (.cells #[.int .i64 k2, .int .i64 m2, .slice b2 h2 d2] 25)
  obtain ⟨p1, p2, ps⟩ := (alloc2_blocks z1 (.cells #[.int .i64 k1, .int .i64 m1, .slice b1 h1 d1] 25) (.cells #[.int .i64 k2, .int .i64 m2, .slice b2 h2 d2] 25))
  have Z1 : Hid (w.grownBy _ none ∧ SlF _ b1 h1 f1 ∧ SlF _ b2 h2 f2 ∧ _ = some _ ∧ _ = some _) := ⟨grown_trans (grown_trans HW.out hg) g0, hN1.1.reads.none g0, hN2.1.reads.none g0, p1, p2⟩
  clear hg hN1 hN2 HC4 HW g0 p1 p2 ps
  simp only []
  go_upto_region 14 with fail
  generalize (z1.alloc (.cells #[.int .i64 k1, .int .i64 m1, .slice b1 h1 d1] 25)).alloc (.cells #[.int .i64 k2, .int .i64 m2, .slice b2 h2 d2] 25) = z2 at *
  generalize z1.heap.size = q1 at *
  have FZ : Hid (∀ u, z2.grownBy u none → w.grownBy u none ∧ SlF u b1 h1 f1 ∧ SlF u b2 h2 f2 ∧ (Tri q1 0 (.int .i64 k1) (.int .i64 m1) (.slice b1 h1 d1) u ∧ Tri (q1 + 1) 0 (.int .i64 k2) (.int .i64 m2) (.slice b2 h2 d2) u)) := fun u hu => ⟨grown_trans Z1.out.1 hu, Z1.out.2.1.none hu, Z1.out.2.2.1.none hu, (three ((hu.block _ (lt_of_block Z1.out.2.2.2.1) (by simp)).trans Z1.out.2.2.2.1)).1, (three ((hu.block _ (lt_of_block Z1.out.2.2.2.2) (by simp)).trans Z1.out.2.2.2.2)).1⟩
  clear Z1
  go_cut [92] (fun s wx => s = .bool false ∧ Hid (w.grownBy wx none))
  case first =>
    go_wp2_with fail
    have GD : Hid (z2.grownBy z2.drew none) := grown_drew (World.grownBy.refl _ _)
    refine wp_region_held_drew (S := (fun u => Tri q1 0 (.int .i64 k1) (.int .i64 m1) (.slice b1 h1 d1) u ∧ Tri (q1 + 1) 0 (.int .i64 k2) (.int .i64 m2) (.slice b2 h2 d2) u)) (by kernel_rfl) (FZ.out _ GD.out).2.2.2 (fun hH => ?_)
    generalize z2.drew = t0 at *
    simp only [List.size_toArray, List.length_cons, List.length_nil, Nat.reduceAdd, Array.replicate, List.replicate]
    refine wpAnyH_take (i := 0) (v := ?_) rfl (by kernel_rfl) (by kernel_rfl) (by kernel_rfl) (fun _ _ _ h => h) (Or.inl ⟨by rfl, ?_⟩) hH ?_
    rotate_left
    · (intro v hS; obtain ⟨⟨s0, s1, s2⟩, ⟨s3, s4, s5⟩⟩ := hS; go_simp; try with_reducible rfl)
    simp only [Act.put, List.setIfInBounds_toArray, List.set_cons_zero, List.set_cons_succ, List.getElem_toArray, List.getElem_cons_succ, List.getElem_cons_zero]
    refine wpAnyH_ready (rs := [1]) (by kernel_rfl) (by simp) ?_
    refine AllReadyH.cons rfl (fun K hK => ?_) AllReadyH.nil
    go_simp
    refine Calls.mono (specTyOkT f1 k1 m1 b1 h1 d1 t0 (FZ.out _ GD.out).2.1) ?_
    rintro e t1 ⟨he, hg⟩
    subst he
    have G1 : Hid (z2.grownBy t1 none) := grown_trans GD.out hg
    refine hK.out _ _ (FZ.out _ G1.out).2.2.2 (fun hH2 => ?_)
    clear hg GD
    clear hK K hH
    have hH := hH2
    clear hH2
    simp only [Act.put, List.setIfInBounds_toArray, List.set_cons_zero, List.set_cons_succ, List.getElem_toArray, List.getElem_cons_succ, List.getElem_cons_zero]
    cases ho1 : okT k1 m1 f1 with
    | false =>
      refine wpAnyH_take (i := 2) (v := ?_) rfl (by kernel_rfl) (by kernel_rfl) (by kernel_rfl) (fun _ _ _ h => h) (Or.inl ⟨by rfl, ?_⟩) hH ?_
      rotate_left
      · (intro v hS; go_simp; try with_reducible rfl)
      simp only [Act.put, List.setIfInBounds_toArray, List.set_cons_zero, List.set_cons_succ, List.getElem_toArray, List.getElem_cons_succ, List.getElem_cons_zero]
      refine wpAnyH_take (i := 3) (v := undef) rfl (by kernel_rfl) (by kernel_rfl) (by kernel_rfl) (fun _ _ _ h => h) (Or.inr ⟨by rfl, rfl⟩) hH ?_
      simp only [Act.put, List.setIfInBounds_toArray, List.set_cons_zero, List.set_cons_succ, List.getElem_toArray, List.getElem_cons_succ, List.getElem_cons_zero]
      refine wpAnyH_take (i := 4) (v := undef) rfl (by kernel_rfl) (by kernel_rfl) (by kernel_rfl) (fun _ _ _ h => h) (Or.inr ⟨by rfl, rfl⟩) hH ?_
      simp only [Act.put, List.setIfInBounds_toArray, List.set_cons_zero, List.set_cons_succ, List.getElem_toArray, List.getElem_cons_succ, List.getElem_cons_zero]
      refine wpAnyH_take (i := 5) (v := ?_) rfl (by kernel_rfl) (by kernel_rfl) (by kernel_rfl) (fun _ _ _ h => h) (Or.inl ⟨by rfl, ?_⟩) hH ?_
      rotate_left
      · (intro v hS; go_simp; try with_reducible rfl)
      simp only [Act.put, List.setIfInBounds_toArray, List.set_cons_zero, List.set_cons_succ, List.getElem_toArray, List.getElem_cons_succ, List.getElem_cons_zero]
      refine wpAnyH_take (i := 6) (v := ?_) rfl (by kernel_rfl) (by kernel_rfl) (by kernel_rfl) (fun _ _ _ h => h) (Or.inl ⟨by rfl, ?_⟩) hH ?_
      rotate_left
      · (intro v hS; go_simp; try with_reducible rfl)
      simp only [Act.put, List.setIfInBounds_toArray, List.set_cons_zero, List.set_cons_succ, List.getElem_toArray, List.getElem_cons_succ, List.getElem_cons_zero]
      refine wpAnyH_take (i := 7) (v := undef) rfl (by kernel_rfl) (by kernel_rfl) (by kernel_rfl) (fun _ _ _ h => h) (Or.inr ⟨by rfl, rfl⟩) hH ?_
      simp only [Act.put, List.setIfInBounds_toArray, List.set_cons_zero, List.set_cons_succ, List.getElem_toArray, List.getElem_cons_succ, List.getElem_cons_zero]
      refine wpAnyH_take (i := 8) (v := undef) rfl (by kernel_rfl) (by kernel_rfl) (by kernel_rfl) (fun _ _ _ h => h) (Or.inr ⟨by rfl, rfl⟩) hH ?_
      simp only [Act.put, List.setIfInBounds_toArray, List.set_cons_zero, List.set_cons_succ, List.getElem_toArray, List.getElem_cons_succ, List.getElem_cons_zero]
      refine wpAnyH_take (i := 9) (v := undef) rfl (by kernel_rfl) (by kernel_rfl) (by kernel_rfl) (fun _ _ _ h => h) (Or.inr ⟨by rfl, rfl⟩) hH ?_
      simp only [Act.put, List.setIfInBounds_toArray, List.set_cons_zero, List.set_cons_succ, List.getElem_toArray, List.getElem_cons_succ, List.getElem_cons_zero]
      refine wpAnyH_take (i := 10) (v := undef) rfl (by kernel_rfl) (by kernel_rfl) (by kernel_rfl) (fun _ _ _ h => h) (Or.inr ⟨by rfl, rfl⟩) hH ?_
      simp only [Act.put, List.setIfInBounds_toArray, List.set_cons_zero, List.set_cons_succ, List.getElem_toArray, List.getElem_cons_succ, List.getElem_cons_zero]
      refine wpAnyH_take (i := 11) (v := undef) rfl (by kernel_rfl) (by kernel_rfl) (by kernel_rfl) (fun _ _ _ h => h) (Or.inr ⟨by rfl, rfl⟩) hH ?_
      simp only [Act.put, List.setIfInBounds_toArray, List.set_cons_zero, List.set_cons_succ, List.getElem_toArray, List.getElem_cons_succ, List.getElem_cons_zero]
      refine wpAnyH_take (i := 12) (v := undef) rfl (by kernel_rfl) (by kernel_rfl) (by kernel_rfl) (fun _ _ _ h => h) (Or.inr ⟨by rfl, rfl⟩) hH ?_
      simp only [Act.put, List.setIfInBounds_toArray, List.set_cons_zero, List.set_cons_succ, List.getElem_toArray, List.getElem_cons_succ, List.getElem_cons_zero]
      refine wpAnyH_take (i := 13) (v := undef) rfl (by kernel_rfl) (by kernel_rfl) (by kernel_rfl) (fun _ _ _ h => h) (Or.inr ⟨by rfl, rfl⟩) hH ?_
      simp only [Act.put, List.setIfInBounds_toArray, List.set_cons_zero, List.set_cons_succ, List.getElem_toArray, List.getElem_cons_succ, List.getElem_cons_zero]
      refine wpAnyH_take (i := 14) (v := undef) rfl (by kernel_rfl) (by kernel_rfl) (by kernel_rfl) (fun _ _ _ h => h) (Or.inr ⟨by rfl, rfl⟩) hH ?_
      simp only [Act.put, List.setIfInBounds_toArray, List.set_cons_zero, List.set_cons_succ, List.getElem_toArray, List.getElem_cons_succ, List.getElem_cons_zero]
      refine wpAnyH_take (i := 15) (v := undef) rfl (by kernel_rfl) (by kernel_rfl) (by kernel_rfl) (fun _ _ _ h => h) (Or.inr ⟨by rfl, rfl⟩) hH ?_
      simp only [Act.put, List.setIfInBounds_toArray, List.set_cons_zero, List.set_cons_succ, List.getElem_toArray, List.getElem_cons_succ, List.getElem_cons_zero]
      refine wpAnyH_take (i := 16) (v := ?_) rfl (by kernel_rfl) (by kernel_rfl) (by kernel_rfl) (fun _ _ _ h => h) (Or.inl ⟨by rfl, ?_⟩) hH ?_
      rotate_left
      · (intro v hS; go_simp; try with_reducible rfl)
      simp only [Act.put, List.setIfInBounds_toArray, List.set_cons_zero, List.set_cons_succ, List.getElem_toArray, List.getElem_cons_succ, List.getElem_cons_zero]
      refine wpAnyH_done (by kernel_rfl) ?_ _
      clear hH
      go_wp2
      go_meet
      case rel => exact ⟨rfl, (FZ.out _ G1.out).1⟩
    | true =>
    refine wpAnyH_take (i := 2) (v := ?_) rfl (by kernel_rfl) (by kernel_rfl) (by kernel_rfl) (fun _ _ _ h => h) (Or.inl ⟨by rfl, ?_⟩) hH ?_
    rotate_left
    · (intro v hS; go_simp; try with_reducible rfl)
    simp only [Act.put, List.setIfInBounds_toArray, List.set_cons_zero, List.set_cons_succ, List.getElem_toArray, List.getElem_cons_succ, List.getElem_cons_zero]
    refine wpAnyH_take (i := 3) (v := ?_) rfl (by kernel_rfl) (by kernel_rfl) (by kernel_rfl) (fun _ _ _ h => h) (Or.inl ⟨by rfl, ?_⟩) hH ?_
    rotate_left
    · (intro v hS; obtain ⟨⟨s0, s1, s2⟩, ⟨s3, s4, s5⟩⟩ := hS; go_simp; try with_reducible rfl)
    simp only [Act.put, List.setIfInBounds_toArray, List.set_cons_zero, List.set_cons_succ, List.getElem_toArray, List.getElem_cons_succ, List.getElem_cons_zero]
    refine wpAnyH_ready (rs := [4]) (by kernel_rfl) (by simp) ?_
    refine AllReadyH.cons rfl (fun K hK => ?_) AllReadyH.nil
    go_simp
    refine Calls.mono (specTyOkT f2 k2 m2 b2 h2 d2 t1 (FZ.out _ G1.out).2.2.1) ?_
    rintro e t2 ⟨he, hg⟩
    subst he
    have G2 : Hid (z2.grownBy t2 none) := grown_trans G1.out hg
    refine hK.out _ _ (FZ.out _ G2.out).2.2.2 (fun hH2 => ?_)
    clear hg G1
    clear hK K hH
    have hH := hH2
    clear hH2
    simp only [Act.put, List.setIfInBounds_toArray, List.set_cons_zero, List.set_cons_succ, List.getElem_toArray, List.getElem_cons_succ, List.getElem_cons_zero]
    cases ho2 : okT k2 m2 f2 with
    | false =>
      refine wpAnyH_take (i := 5) (v := ?_) rfl (by kernel_rfl) (by kernel_rfl) (by kernel_rfl) (fun _ _ _ h => h) (Or.inl ⟨by rfl, ?_⟩) hH ?_
      rotate_left
      · (intro v hS; go_simp; try with_reducible rfl)
      simp only [Act.put, List.setIfInBounds_toArray, List.set_cons_zero, List.set_cons_succ, List.getElem_toArray, List.getElem_cons_succ, List.getElem_cons_zero]
      refine wpAnyH_take (i := 6) (v := ?_) rfl (by kernel_rfl) (by kernel_rfl) (by kernel_rfl) (fun _ _ _ h => h) (Or.inl ⟨by rfl, ?_⟩) hH ?_
      rotate_left
      · (intro v hS; go_simp; try with_reducible rfl)
      simp only [Act.put, List.setIfInBounds_toArray, List.set_cons_zero, List.set_cons_succ, List.getElem_toArray, List.getElem_cons_succ, List.getElem_cons_zero]
      refine wpAnyH_take (i := 7) (v := undef) rfl (by kernel_rfl) (by kernel_rfl) (by kernel_rfl) (fun _ _ _ h => h) (Or.inr ⟨by rfl, rfl⟩) hH ?_
      simp only [Act.put, List.setIfInBounds_toArray, List.set_cons_zero, List.set_cons_succ, List.getElem_toArray, List.getElem_cons_succ, List.getElem_cons_zero]
      refine wpAnyH_take (i := 8) (v := undef) rfl (by kernel_rfl) (by kernel_rfl) (by kernel_rfl) (fun _ _ _ h => h) (Or.inr ⟨by rfl, rfl⟩) hH ?_
      simp only [Act.put, List.setIfInBounds_toArray, List.set_cons_zero, List.set_cons_succ, List.getElem_toArray, List.getElem_cons_succ, List.getElem_cons_zero]
      refine wpAnyH_take (i := 9) (v := undef) rfl (by kernel_rfl) (by kernel_rfl) (by kernel_rfl) (fun _ _ _ h => h) (Or.inr ⟨by rfl, rfl⟩) hH ?_
      simp only [Act.put, List.setIfInBounds_toArray, List.set_cons_zero, List.set_cons_succ, List.getElem_toArray, List.getElem_cons_succ, List.getElem_cons_zero]
      refine wpAnyH_take (i := 10) (v := undef) rfl (by kernel_rfl) (by kernel_rfl) (by kernel_rfl) (fun _ _ _ h => h) (Or.inr ⟨by rfl, rfl⟩) hH ?_
      simp only [Act.put, List.setIfInBounds_toArray, List.set_cons_zero, List.set_cons_succ, List.getElem_toArray, List.getElem_cons_succ, List.getElem_cons_zero]
      refine wpAnyH_take (i := 11) (v := undef) rfl (by kernel_rfl) (by kernel_rfl) (by kernel_rfl) (fun _ _ _ h => h) (Or.inr ⟨by rfl, rfl⟩) hH ?_
      simp only [Act.put, List.setIfInBounds_toArray, List.set_cons_zero, List.set_cons_succ, List.getElem_toArray, List.getElem_cons_succ, List.getElem_cons_zero]
      refine wpAnyH_take (i := 12) (v := undef) rfl (by kernel_rfl) (by kernel_rfl) (by kernel_rfl) (fun _ _ _ h => h) (Or.inr ⟨by rfl, rfl⟩) hH ?_
      simp only [Act.put, List.setIfInBounds_toArray, List.set_cons_zero, List.set_cons_succ, List.getElem_toArray, List.getElem_cons_succ, List.getElem_cons_zero]
      refine wpAnyH_take (i := 13) (v := undef) rfl (by kernel_rfl) (by kernel_rfl) (by kernel_rfl) (fun _ _ _ h => h) (Or.inr ⟨by rfl, rfl⟩) hH ?_
      simp only [Act.put, List.setIfInBounds_toArray, List.set_cons_zero, List.set_cons_succ, List.getElem_toArray, List.getElem_cons_succ, List.getElem_cons_zero]
      refine wpAnyH_take (i := 14) (v := undef) rfl (by kernel_rfl) (by kernel_rfl) (by kernel_rfl) (fun _ _ _ h => h) (Or.inr ⟨by rfl, rfl⟩) hH ?_
      simp only [Act.put, List.setIfInBounds_toArray, List.set_cons_zero, List.set_cons_succ, List.getElem_toArray, List.getElem_cons_succ, List.getElem_cons_zero]
      refine wpAnyH_take (i := 15) (v := undef) rfl (by kernel_rfl) (by kernel_rfl) (by kernel_rfl) (fun _ _ _ h => h) (Or.inr ⟨by rfl, rfl⟩) hH ?_
      simp only [Act.put, List.setIfInBounds_toArray, List.set_cons_zero, List.set_cons_succ, List.getElem_toArray, List.getElem_cons_succ, List.getElem_cons_zero]
      refine wpAnyH_take (i := 16) (v := ?_) rfl (by kernel_rfl) (by kernel_rfl) (by kernel_rfl) (fun _ _ _ h => h) (Or.inl ⟨by rfl, ?_⟩) hH ?_
      rotate_left
      · (intro v hS; go_simp; try with_reducible rfl)
      simp only [Act.put, List.setIfInBounds_toArray, List.set_cons_zero, List.set_cons_succ, List.getElem_toArray, List.getElem_cons_succ, List.getElem_cons_zero]
      refine wpAnyH_done (by kernel_rfl) ?_ _
      clear hH
      go_wp2
      go_meet
      case rel => exact ⟨rfl, (FZ.out _ G2.out).1⟩
    | true =>
    have HQ : Hid (decide (sayV k1 m1 f1 = sayV k2 m2 f2) = eqV k1 m1 f1 k2 m2 f2 ∧ okT k1 m1 f1 = true ∧ okT k2 m2 f2 = true) := ⟨say_eqV ho1 ho2, ho1, ho2⟩
    clear ho1 ho2
    refine wpAnyH_take (i := 5) (v := ?_) rfl (by kernel_rfl) (by kernel_rfl) (by kernel_rfl) (fun _ _ _ h => h) (Or.inl ⟨by rfl, ?_⟩) hH ?_
    rotate_left
    · (intro v hS; go_simp; try with_reducible rfl)
    simp only [Act.put, List.setIfInBounds_toArray, List.set_cons_zero, List.set_cons_succ, List.getElem_toArray, List.getElem_cons_succ, List.getElem_cons_zero]
    refine wpAnyH_take (i := 6) (v := ?_) rfl (by kernel_rfl) (by kernel_rfl) (by kernel_rfl) (fun _ _ _ h => h) (Or.inl ⟨by rfl, ?_⟩) hH ?_
    rotate_left
    · (intro v hS; go_simp; try with_reducible rfl)
    simp only [Act.put, List.setIfInBounds_toArray, List.set_cons_zero, List.set_cons_succ, List.getElem_toArray, List.getElem_cons_succ, List.getElem_cons_zero]
    refine wpAnyH_take (i := 7) (v := ?_) rfl (by kernel_rfl) (by kernel_rfl) (by kernel_rfl) (fun _ _ _ h => h) (Or.inl ⟨by rfl, ?_⟩) hH ?_
    rotate_left
    · (intro v hS; obtain ⟨⟨s0, s1, s2⟩, ⟨s3, s4, s5⟩⟩ := hS; go_simp; try with_reducible rfl)
    simp only [Act.put, List.setIfInBounds_toArray, List.set_cons_zero, List.set_cons_succ, List.getElem_toArray, List.getElem_cons_succ, List.getElem_cons_zero]
    refine wpAnyH_take (i := 9) (v := ?_) rfl (by kernel_rfl) (by kernel_rfl) (by kernel_rfl) (fun _ _ _ h => h) (Or.inl ⟨by rfl, ?_⟩) hH ?_
    rotate_left
    · (intro v hS; obtain ⟨⟨s0, s1, s2⟩, ⟨s3, s4, s5⟩⟩ := hS; go_simp; try with_reducible rfl)
    simp only [Act.put, List.setIfInBounds_toArray, List.set_cons_zero, List.set_cons_succ, List.getElem_toArray, List.getElem_cons_succ, List.getElem_cons_zero]
    refine wpAnyH_take (i := 12) (v := ?_) rfl (by kernel_rfl) (by kernel_rfl) (by kernel_rfl) (fun _ _ _ h => h) (Or.inl ⟨by rfl, ?_⟩) hH ?_
    rotate_left
    · (intro v hS; obtain ⟨⟨s0, s1, s2⟩, ⟨s3, s4, s5⟩⟩ := hS; go_simp; try with_reducible rfl)
    simp only [Act.put, List.setIfInBounds_toArray, List.set_cons_zero, List.set_cons_succ, List.getElem_toArray, List.getElem_cons_succ, List.getElem_cons_zero]
    refine wpAnyH_take (i := 13) (v := ?_) rfl (by kernel_rfl) (by kernel_rfl) (by kernel_rfl) (fun _ _ _ h => h) (Or.inl ⟨by rfl, ?_⟩) hH ?_
    rotate_left
    · (intro v hS; obtain ⟨⟨s0, s1, s2⟩, ⟨s3, s4, s5⟩⟩ := hS; go_simp; try with_reducible rfl)
    simp only [Act.put, List.setIfInBounds_toArray, List.set_cons_zero, List.set_cons_succ, List.getElem_toArray, List.getElem_cons_succ, List.getElem_cons_zero]
    refine wpAnyH_ready (rs := [8]) (by kernel_rfl) (by simp) ?_
    refine AllReadyH.cons rfl (fun K hK => ?_) AllReadyH.nil
    go_simp
    refine Calls.mono (implTySayT f1 k1 m1 b1 h1 d1 t2 (FZ.out _ G2.out).2.1 (fun u hu => HT.out u (grown_trans (FZ.out _ G2.out).1 hu))) ?_
    rintro e t3 ⟨sa, sc, he, hg, hO⟩
    subst he
    have G3 : Hid (z2.grownBy t3 none) := grown_trans G2.out hg
    have O3 : Hid (OwB t2.heap.size t3 sa (sayV k1 m1 f1).length sc (sayV k1 m1 f1)) := hO.owB
    refine hK.out _ _ (FZ.out _ G3.out).2.2.2 (fun hH2 => ?_)
    clear hg G2 hO
    clear hK K hH
    have hH := hH2
    clear hH2
    simp only [Act.put, List.setIfInBounds_toArray, List.set_cons_zero, List.set_cons_succ, List.getElem_toArray, List.getElem_cons_succ, List.getElem_cons_zero]
    refine wpAnyH_ready (rs := [10]) (by kernel_rfl) (by simp) ?_
    refine AllReadyH.cons rfl (fun K hK => ?_) AllReadyH.nil
    go_simp
    refine Calls.mono (implTySayT f2 k2 m2 b2 h2 d2 t3 (FZ.out _ G3.out).2.2.1 (fun u hu => HT.out u (grown_trans (FZ.out _ G3.out).1 hu))) ?_
    rintro e t4 ⟨sa2, sc2, he, hg, hO⟩
    subst he
    have G4 : Hid (z2.grownBy t4 none) := grown_trans G3.out hg
    have O4 : Hid (OwB t2.heap.size t4 sa (sayV k1 m1 f1).length sc (sayV k1 m1 f1) ∧ OwB t3.heap.size t4 sa2 (sayV k2 m2 f2).length sc2 (sayV k2 m2 f2)) := ⟨O3.out.kept hg, hO.owB⟩
    refine hK.out _ _ (FZ.out _ G4.out).2.2.2 (fun hH2 => ?_)
    clear hg G3 hO O3
    clear hK K hH
    have hH := hH2
    clear hH2
    simp only [Act.put, List.setIfInBounds_toArray, List.set_cons_zero, List.set_cons_succ, List.getElem_toArray, List.getElem_cons_succ, List.getElem_cons_zero]
    refine wpAnyH_ready (rs := [11]) (by kernel_rfl) (by simp) ?_
    refine AllReadyH.cons rfl (fun K hK => ?_) AllReadyH.nil
    go_simp
    refine Calls.mono (sameG sa sa2 _ _ sc sc2 (sayV k1 m1 f1) (sayV k2 m2 f2) t4 O4.out.1.reads O4.out.2.reads (sayV_byt _ _ _) (sayV_byt _ _ _) O4.out.1.plainF O4.out.2.plainF) ?_
    rintro e t5 ⟨he, hw2⟩
    rw [HQ.out.1] at he
    subst he hw2
    refine hK.out _ _ (FZ.out _ G4.out).2.2.2 (fun hH2 => ?_)
    clear O4
    clear hK K hH
    have hH := hH2
    clear hH2
    simp only [Act.put, List.setIfInBounds_toArray, List.set_cons_zero, List.set_cons_succ, List.getElem_toArray, List.getElem_cons_succ, List.getElem_cons_zero]
    refine wpAnyH_ready (rs := [14]) (by kernel_rfl) (by simp) ?_
    refine AllReadyH.cons rfl (fun K hK => ?_) AllReadyH.nil
    go_simp
    refine Calls.mono (implTyEqT f1 f2 k1 m1 k2 m2 b1 b2 h1 d1 h2 d2 t5 (FZ.out _ G4.out).2.1 (FZ.out _ G4.out).2.2.1) ?_
    rintro e t6 ⟨he, hg⟩
    rw [HQ.out.2.1, HQ.out.2.2, Bool.true_and, Bool.true_and] at he
    subst he
    have G5 : Hid (z2.grownBy t6 none) := grown_trans G4.out hg
    refine hK.out _ _ (FZ.out _ G5.out).2.2.2 (fun hH2 => ?_)
    clear hg G4 HQ
    generalize eqV k1 m1 f1 k2 m2 f2 = te at *
    clear hK K hH
    have hH := hH2
    clear hH2
    simp only [Act.put, List.setIfInBounds_toArray, List.set_cons_zero, List.set_cons_succ, List.getElem_toArray, List.getElem_cons_succ, List.getElem_cons_zero]
    refine wpAnyH_take (i := 15) (v := ?_) rfl (by kernel_rfl) (by kernel_rfl) (by kernel_rfl) (fun _ _ _ h => h) (Or.inl ⟨by rfl, ?_⟩) hH ?_
    rotate_left
    · (intro v hS; go_simp; try with_reducible rfl)
    simp only [Act.put, List.setIfInBounds_toArray, List.set_cons_zero, List.set_cons_succ, List.getElem_toArray, List.getElem_cons_succ, List.getElem_cons_zero]
    refine wpAnyH_take (i := 16) (v := ?_) rfl (by kernel_rfl) (by kernel_rfl) (by kernel_rfl) (fun _ _ _ h => h) (Or.inl ⟨by rfl, ?_⟩) hH ?_
    rotate_left
    · (intro v hS; go_simp; try with_reducible rfl)
    simp only [Act.put, List.setIfInBounds_toArray, List.set_cons_zero, List.set_cons_succ, List.getElem_toArray, List.getElem_cons_succ, List.getElem_cons_zero]
    refine wpAnyH_done (by kernel_rfl) ?_ _
    clear hH
    cases te
    all_goals
      go_wp2
      go_meet
      case rel => exact ⟨rfl, (FZ.out _ G5.out).1⟩
  case rest =>
  obtain ⟨rfl, HW⟩ := hcut
  clear FZ
  have e1 : okT 0 0 .nil = true := by decide
  have e2 : okT 8 0 .nil = false := by decide
  have C5 := implTyOkT .nil 0 0 none 0 0 wc (New.nil wc wc 25).1.reads
  rw [e1] at C5
  have HC5 : Hid _ := C5
  clear C5
  go_wp2_with fail
  refine Calls.mono HC5.out ?_
  rintro e x1 ⟨he, hg⟩
  subst he
  have G6 : Hid (w.grownBy x1 none) := grown_trans HW.out hg
  have C6 := implTyOkT .nil 8 0 none 0 0 x1 (New.nil x1 x1 25).1.reads
  rw [e2] at C6
  have HC6 : Hid _ := C6
  clear C6 hg HW HC5
  simp only []
  go_wp2_with fail
  refine Calls.mono HC6.out ?_
  rintro e x2 ⟨he, hg⟩
  subst he
  have G7 : Hid (w.grownBy x2 none) := grown_trans G6.out hg
  clear hg HC6 G6
  simp only []
  go_wp2
  go_ret
  exact ⟨rfl, G7.out⟩
end Go.Proofs.YtjchjdcaampghaaDoor.By
