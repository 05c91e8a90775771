/-
  The program's text of a tree, by its contract. No statement is proved here.
-/
import Derived.Test.YtjchjdcaampghaaDoorShelfAJ
namespace Go.Proofs.YtjchjdcaampghaaDoor.By
open Go.RowKit
set_option linter.unusedVariables false
set_option linter.unusedSimpArgs false





/-- The table that the library's writer reads. -/
def TabB (B : Nat) (w : World) : Prop := Lib.TabBelow Tryd.prog B w "internal/strconv.uint64pow10" .u64 Lib.pow10Tab
theorem itoa_dec {n : Int} (h : 0 ≤ n) : ofB (Lib.itoa n) = decB n.toNat := by
  unfold Lib.itoa decB
  rw [if_neg (by omega)]
theorem SayS.int {W0 w u u' : World} {q : Nat} {k n : Int} {a : Option Addr} {l c : Nat} {v v' : Value} {zs : List Int} {i : Int} (h : SayS W0 w q k n a l c v zs u) (o : u'.ownsRow W0.heap.size 5 1 v' (zs.length + (Lib.itoa i).length) (vals zs ++ Lib.byteCells (Lib.itoa i))) (hb : Below W0.heap.size u u') (hk : Lib.OthersKept 5 none u u') (hi : 0 ≤ i) : SayS W0 w q k n a l c v' (zs ++ decB i.toNat) u' := by
  have f := FrS.of_kept hb hk
  refine ⟨h.fr.trans f, f.three h.box (by decide), ?_, Nat.le_trans h.size hb.size⟩
  rw [byteCells_vals, itoa_dec hi] at o
  have e : (Lib.itoa i).length = (decB i.toNat).length := by rw [← itoa_dec hi, ofB_len]
  rw [e] at o
  rw [List.length_append]
  simpa [vals] using o
/-- Along a text: the row that grows alone. -/
structure SayN (W0 w : World) (v : Value) (zs : List Int) (u : World) : Prop where
  fr : FrS W0.heap.size w u
  own : u.ownsRow W0.heap.size 5 1 v zs.length (vals zs)
  size : W0.heap.size ≤ u.heap.size
theorem SayN.grown {W0 w u u' : World} {v : Value} {zs : List Int} (h : SayN W0 w v zs u) (hg : u.grownBy u' none) : SayN W0 w v zs u' :=
  ⟨h.fr.trans (FrS.grown hg h.size), h.own.kept hg (Classical.em _), Nat.le_trans h.size hg.size⟩
theorem SayN.app {W0 w u u' : World} {m : Nat} {v v' : Value} {zs ys : List Int} (h : SayN W0 w v zs u) (o : u'.ownsRow W0.heap.size 5 1 v' (zs.length + m) (vals (zs ++ ys))) (hm : ys.length = m) (g : u.grownBy u' v.ownBlock) : SayN W0 w v' (zs ++ ys) u' := by
  have f := FrS.own g h.own h.size
  exact ⟨h.fr.trans f, by rw [List.length_append, hm]; exact o, Nat.le_trans h.size g.size⟩







set_option maxRecDepth 8000 in
set_option maxHeartbeats 4000000 in
theorem addTextT (W0 : World) (hT0 : TabB W0.heap.size W0) (m : Nat) : ∀ (d : F) (k n : Int) (a : Option Addr) (l c : Nat) (v : Value) (zs : List Int) (w : World) (p : Nat), d.size < m → SlF W0 a l d → Below W0.heap.size W0 w → w.ownsRow W0.heap.size 5 1 v zs.length (vals zs) → fitsB k n l = true → okF d p = true → zs.length + (11 + 12 * d.size) ≤ 1000000 →
    Calls Tryd.prog 28 #[v, .agg #[.int .i64 k, .int .i64 n, .slice a l c]] w fun e u => ∃ v', e = .returned v' ∧ u.ownsRow W0.heap.size 5 1 v' (zs ++ sayT k n d).length (vals (zs ++ sayT k n d)) ∧ FrS W0.heap.size w u := by
  induction m with
  | zero => intro d k n a l c v zs w p hm; exact absurd hm (Nat.not_lt_zero _)
  | succ m ih =>
    intro d k n a l c v zs w p hm h hb ho hf hok hlen
    obtain ⟨i0, hi, hz0, hz1, hz2⟩ := info_parts infoS
    have hfl := h.1
    have hl := h.2.1
    have hk := fits_rangeS hf
    have hB := hb.size
    have g0 := World.grownBy_alloc w (.cells #[.int .i64 k, .int .i64 n, .slice a l c] 25) none
    have b0 := heap_alloc_new w (.cells #[.int .i64 k, .int .i64 n, .slice a l c] 25)
    have A0 : Hid (SayS W0 w w.heap.size k n a l c v zs (w.alloc (.cells #[.int .i64 k, .int .i64 n, .slice a l c] 25))) := ⟨FrS.grown g0 hB, b0, ho.alloc _, Nat.le_trans hB g0.size⟩
    have IH : Hid _ := ih
    have HS : Hid (SlF W0 a l d ∧ Below W0.heap.size W0 w) := ⟨h, hb⟩
    have HF : Hid (fitsB k n l = true ∧ okF d p = true) := ⟨hf, hok⟩
    have HTA : Hid (∀ u u', FrS W0.heap.size w u → FrS W0.heap.size u u' → TabB W0.heap.size u') := fun u u' h1 h2 => hT0.on (hb.trans (h1.below.trans h2.below))
    have hnn := fits_num hf
    have CS : Hid _ := shpT k (w.alloc (.cells #[.int .i64 k, .int .i64 n, .slice a l c] 25))
    clear ih h hb ho hf hok g0 b0 hT0
    go_enter Tryd.func28, Tryd.ntmps28
    go_wp2_with fail
    refine Calls.mono CS.out ?_
    rintro e w2 ⟨he, hg⟩
    subst he
    have AL : Hid (SayS W0 w w.heap.size k n a l c v zs w2) := A0.out.grown hg
    clear hg CS A0
    generalize w.heap.size = q at *
    obtain ⟨⟨x0, x1, x2⟩, -⟩ := three AL.out.box
    simp only []
    by_cases h0 : k = 0
    · subst h0
      have E : shpV 0 = .iface 73 (.agg #[.string ⟨#[117, 110, 105, 116]⟩, .int .i64 0, .bool false]) := rfl
      rw [E]
      have t1 := asVarFix (.agg #[.string ⟨#[117, 110, 105, 116]⟩, .int .i64 0, .bool false])
      have t2 := asDataFix (.agg #[.string ⟨#[117, 110, 105, 116]⟩, .int .i64 0, .bool false])
      have t3 := asFixFix (.agg #[.string ⟨#[117, 110, 105, 116]⟩, .int .i64 0, .bool false])
      have EF : Hid (zs ++ [117, 110, 105, 116] = zs ++ sayT 0 n d) := by show _ = _; simp [sayT, bodyS, headS, wordB]
      have hz9 : zs.length + ([117, 110, 105, 116] : List Int).length ≤ 1048576 := by simp only [List.length_cons, List.length_nil]; omega
      have ga := World.grownBy_alloc w2 (.cells #[.string ⟨#[117, 110, 105, 116]⟩, .int .i64 0, .bool false] 73) none
      have F7 : Hid (FrS W0.heap.size w (w2.alloc (.cells #[.string ⟨#[117, 110, 105, 116]⟩, .int .i64 0, .bool false] 73))) := (AL.out.grown ga).fr
      have AN := AL.out.grown ga
      have AM : Hid (SayS W0 (w2.alloc (.cells #[.string ⟨#[117, 110, 105, 116]⟩, .int .i64 0, .bool false] 73)) q _ n a l c v zs (w2.alloc (.cells #[.string ⟨#[117, 110, 105, 116]⟩, .int .i64 0, .bool false] 73))) := ⟨FrS.refl _ _, AN.box, AN.own, AN.size⟩
      have bx := (three (heap_alloc_new w2 (.cells #[.string ⟨#[117, 110, 105, 116]⟩, .int .i64 0, .bool false] 73))).1
      obtain ⟨b0, b1, b2⟩ := bx
      clear IH HS HF E ga AN AL x0 x1 x2
      go_upto_region 11 with fail
      generalize w2.alloc (.cells #[.string ⟨#[117, 110, 105, 116]⟩, .int .i64 0, .bool false] 73) = wx at *
      generalize w2.heap.size = q7 at *
      go_wp2_with (at_builtin; go_must (refine wpList_strB rfl _ _ 22 9 rfl W0.heap.size i0 Tryd.underlying22 Tryd.underlying9 hi hz0 hz1 hz2 v zs.length zs rfl AM.out.own _ [117, 110, 105, 116] rfl rfl hz9 AM.out.size ?_); intro v2 u2 o2 g2)
      have FN := AM.out.app o2 rfl g2
      rw [EF.out] at FN
      have FF : Hid (SayS W0 wx q 0 n a l c v2 (zs ++ sayT 0 n d) u2) := FN
      clear FN o2 g2 AM
      go_ret
      exact ⟨v2, rfl, FF.out.own, F7.out.trans FF.out.fr⟩
    by_cases h1 : k = 1
    · subst h1
      have E : shpV 1 = .iface 73 (.agg #[.string ⟨#[105, 110, 116]⟩, .int .i64 0, .bool false]) := rfl
      rw [E]
      have t1 := asVarFix (.agg #[.string ⟨#[105, 110, 116]⟩, .int .i64 0, .bool false])
      have t2 := asDataFix (.agg #[.string ⟨#[105, 110, 116]⟩, .int .i64 0, .bool false])
      have t3 := asFixFix (.agg #[.string ⟨#[105, 110, 116]⟩, .int .i64 0, .bool false])
      have EF : Hid (zs ++ [105, 110, 116] = zs ++ sayT 1 n d) := by show _ = _; simp [sayT, bodyS, headS, wordB]
      have hz9 : zs.length + ([105, 110, 116] : List Int).length ≤ 1048576 := by simp only [List.length_cons, List.length_nil]; omega
      have ga := World.grownBy_alloc w2 (.cells #[.string ⟨#[105, 110, 116]⟩, .int .i64 0, .bool false] 73) none
      have F7 : Hid (FrS W0.heap.size w (w2.alloc (.cells #[.string ⟨#[105, 110, 116]⟩, .int .i64 0, .bool false] 73))) := (AL.out.grown ga).fr
      have AN := AL.out.grown ga
      have AM : Hid (SayS W0 (w2.alloc (.cells #[.string ⟨#[105, 110, 116]⟩, .int .i64 0, .bool false] 73)) q _ n a l c v zs (w2.alloc (.cells #[.string ⟨#[105, 110, 116]⟩, .int .i64 0, .bool false] 73))) := ⟨FrS.refl _ _, AN.box, AN.own, AN.size⟩
      have bx := (three (heap_alloc_new w2 (.cells #[.string ⟨#[105, 110, 116]⟩, .int .i64 0, .bool false] 73))).1
      obtain ⟨b0, b1, b2⟩ := bx
      clear IH HS HF E ga AN AL x0 x1 x2
      go_upto_region 11 with fail
      generalize w2.alloc (.cells #[.string ⟨#[105, 110, 116]⟩, .int .i64 0, .bool false] 73) = wx at *
      generalize w2.heap.size = q7 at *
      go_wp2_with (at_builtin; go_must (refine wpList_strB rfl _ _ 22 9 rfl W0.heap.size i0 Tryd.underlying22 Tryd.underlying9 hi hz0 hz1 hz2 v zs.length zs rfl AM.out.own _ [105, 110, 116] rfl rfl hz9 AM.out.size ?_); intro v2 u2 o2 g2)
      have FN := AM.out.app o2 rfl g2
      rw [EF.out] at FN
      have FF : Hid (SayS W0 wx q 1 n a l c v2 (zs ++ sayT 1 n d) u2) := FN
      clear FN o2 g2 AM
      go_ret
      exact ⟨v2, rfl, FF.out.own, F7.out.trans FF.out.fr⟩
    by_cases h2 : k = 2
    · subst h2
      have E : shpV 2 = .iface 73 (.agg #[.string ⟨#[116, 101, 120, 116]⟩, .int .i64 0, .bool true]) := rfl
      rw [E]
      have t1 := asVarFix (.agg #[.string ⟨#[116, 101, 120, 116]⟩, .int .i64 0, .bool true])
      have t2 := asDataFix (.agg #[.string ⟨#[116, 101, 120, 116]⟩, .int .i64 0, .bool true])
      have t3 := asFixFix (.agg #[.string ⟨#[116, 101, 120, 116]⟩, .int .i64 0, .bool true])
      have EF : Hid (zs ++ [116, 101, 120, 116] = zs ++ sayT 2 n d) := by show _ = _; simp [sayT, bodyS, headS, wordB]
      have hz9 : zs.length + ([116, 101, 120, 116] : List Int).length ≤ 1048576 := by simp only [List.length_cons, List.length_nil]; omega
      have ga := World.grownBy_alloc w2 (.cells #[.string ⟨#[116, 101, 120, 116]⟩, .int .i64 0, .bool true] 73) none
      have F7 : Hid (FrS W0.heap.size w (w2.alloc (.cells #[.string ⟨#[116, 101, 120, 116]⟩, .int .i64 0, .bool true] 73))) := (AL.out.grown ga).fr
      have AN := AL.out.grown ga
      have AM : Hid (SayS W0 (w2.alloc (.cells #[.string ⟨#[116, 101, 120, 116]⟩, .int .i64 0, .bool true] 73)) q _ n a l c v zs (w2.alloc (.cells #[.string ⟨#[116, 101, 120, 116]⟩, .int .i64 0, .bool true] 73))) := ⟨FrS.refl _ _, AN.box, AN.own, AN.size⟩
      have bx := (three (heap_alloc_new w2 (.cells #[.string ⟨#[116, 101, 120, 116]⟩, .int .i64 0, .bool true] 73))).1
      obtain ⟨b0, b1, b2⟩ := bx
      clear IH HS HF E ga AN AL x0 x1 x2
      go_upto_region 11 with fail
      generalize w2.alloc (.cells #[.string ⟨#[116, 101, 120, 116]⟩, .int .i64 0, .bool true] 73) = wx at *
      generalize w2.heap.size = q7 at *
      go_wp2_with (at_builtin; go_must (refine wpList_strB rfl _ _ 22 9 rfl W0.heap.size i0 Tryd.underlying22 Tryd.underlying9 hi hz0 hz1 hz2 v zs.length zs rfl AM.out.own _ [116, 101, 120, 116] rfl rfl hz9 AM.out.size ?_); intro v2 u2 o2 g2)
      have FN := AM.out.app o2 rfl g2
      rw [EF.out] at FN
      have FF : Hid (SayS W0 wx q 2 n a l c v2 (zs ++ sayT 2 n d) u2) := FN
      clear FN o2 g2 AM
      go_ret
      exact ⟨v2, rfl, FF.out.own, F7.out.trans FF.out.fr⟩
    by_cases h3 : k = 3
    · subst h3
      have E : shpV 3 = .iface 73 (.agg #[.string ⟨#[112, 97, 105, 114]⟩, .int .i64 2, .bool true]) := rfl
      rw [E]
      have t1 := asVarFix (.agg #[.string ⟨#[112, 97, 105, 114]⟩, .int .i64 2, .bool true])
      have t2 := asDataFix (.agg #[.string ⟨#[112, 97, 105, 114]⟩, .int .i64 2, .bool true])
      have t3 := asFixFix (.agg #[.string ⟨#[112, 97, 105, 114]⟩, .int .i64 2, .bool true])
      have EH : Hid (sayT 3 n d = [40] ++ [112, 97, 105, 114] ++ (sayF d ++ [41])) := by show _ = _; simp [sayT, bodyS, headS, wordB]
      have HL : Hid (zs.length + ([40] ++ [112, 97, 105, 114] : List Int).length + 12 * d.size + 1 ≤ 1000000) := by show _ ≤ _; simp only [List.length_append, List.length_cons, List.length_nil]; omega
      have hz9 : zs.length + 1 ≤ 1048576 := by omega
      have hz8 : (zs ++ [40]).length + ([112, 97, 105, 114] : List Int).length ≤ 1048576 := by simp only [List.length_append, List.length_cons, List.length_nil]; omega
      have ga := World.grownBy_alloc w2 (.cells #[.string ⟨#[112, 97, 105, 114]⟩, .int .i64 2, .bool true] 73) none
      have F7 : Hid (FrS W0.heap.size w (w2.alloc (.cells #[.string ⟨#[112, 97, 105, 114]⟩, .int .i64 2, .bool true] 73))) := (AL.out.grown ga).fr
      have AN := AL.out.grown ga
      have AM : Hid (SayS W0 (w2.alloc (.cells #[.string ⟨#[112, 97, 105, 114]⟩, .int .i64 2, .bool true] 73)) q _ n a l c v zs (w2.alloc (.cells #[.string ⟨#[112, 97, 105, 114]⟩, .int .i64 2, .bool true] 73))) := ⟨FrS.refl _ _, AN.box, AN.own, AN.size⟩
      have bx := (three (heap_alloc_new w2 (.cells #[.string ⟨#[112, 97, 105, 114]⟩, .int .i64 2, .bool true] 73))).1
      have BX : Hid ((w2.alloc (.cells #[.string ⟨#[112, 97, 105, 114]⟩, .int .i64 2, .bool true] 73)).heap[w2.heap.size]? = some (.cells #[.string ⟨#[112, 97, 105, 114]⟩, .int .i64 2, .bool true] 73)) := heap_alloc_new w2 _
      obtain ⟨b0, b1, b2⟩ := bx
      clear E ga AN AL x0 x1 x2
      go_upto_region 12 with fail
      generalize w2.alloc (.cells #[.string ⟨#[112, 97, 105, 114]⟩, .int .i64 2, .bool true] 73) = wx at *
      generalize w2.heap.size = q7 at *
      have HT : Hid (∀ u, FrS W0.heap.size wx u → Tri q7 0 (.string ⟨#[112, 97, 105, 114]⟩) (.int .i64 2) (.bool true) u) := fun u hu => (three (hu.three BX.out (by decide))).1
      have AD : Hid (SayS W0 wx q 3 n a l c v zs wx.drew) := AM.out.grown (grown_drew (World.grownBy.refl _ none))
      clear AM b0 b1 b2 BX
      generalize eqx : q = qx at *
      refine wp_region_held_drew (S := (fun u => Tri qx 0 (.int .i64 3) (.int .i64 n) (.slice a l c) u ∧ Tri q7 0 (.string ⟨#[112, 97, 105, 114]⟩) (.int .i64 2) (.bool true) u)) (by kernel_rfl) ⟨AD.out.tri, HT.out _ AD.out.fr⟩ (fun hH => ?_)
      have AL := AD
      clear AD
      generalize wx.drew = v0 at *
      simp only [List.size_toArray, List.length_cons, List.length_nil, Nat.reduceAdd, Array.replicate, List.replicate]
      refine wpAnyH_take (i := 0) (v := ?_) rfl (by kernel_rfl) (by kernel_rfl) (by kernel_rfl) (fun _ _ _ h => h) (Or.inl ⟨by rfl, ?_⟩) hH ?_
      rotate_left
      · (intro v hS; obtain ⟨⟨s0, s1, s2⟩, ⟨r0, r1, r2⟩⟩ := hS; go_simp; try with_reducible rfl)
      simp only [Act.put, List.setIfInBounds_toArray, List.set_cons_zero, List.set_cons_succ, List.getElem_toArray, List.getElem_cons_succ, List.getElem_cons_zero]
      refine wpAnyH_take (i := 3) (v := ?_) rfl (by kernel_rfl) (by kernel_rfl) (by kernel_rfl) (fun _ _ _ h => h) (Or.inl ⟨by rfl, ?_⟩) hH ?_
      rotate_left
      · (intro v hS; obtain ⟨⟨s0, s1, s2⟩, ⟨r0, r1, r2⟩⟩ := hS; go_simp; try with_reducible rfl)
      simp only [Act.put, List.setIfInBounds_toArray, List.set_cons_zero, List.set_cons_succ, List.getElem_toArray, List.getElem_cons_succ, List.getElem_cons_zero]
      refine wpAnyH_take (i := 4) (v := ?_) rfl (by kernel_rfl) (by kernel_rfl) (by kernel_rfl) (fun _ _ _ h => h) (Or.inl ⟨by rfl, ?_⟩) hH ?_
      rotate_left
      · (intro v hS; obtain ⟨⟨s0, s1, s2⟩, ⟨r0, r1, r2⟩⟩ := hS; go_simp; try with_reducible rfl)
      simp only [Act.put, List.setIfInBounds_toArray, List.set_cons_zero, List.set_cons_succ, List.getElem_toArray, List.getElem_cons_succ, List.getElem_cons_zero]
      refine wpAnyH_ready (rs := [1]) (by kernel_rfl) (by simp) ?_
      refine AllReadyH.cons rfl (fun K hK => ?_) AllReadyH.nil
      go_simp
      have AN : Hid (SayS W0 wx qx _ _ _ _ _ _ _ (v0.alloc (.cells #[.int .u8 40] 5)) ∧ Reads (v0.alloc (.cells #[.int .u8 40] 5)) (some ⟨v0.heap.size, 0, none⟩) 1 [40]) := ⟨AL.out.grown (World.grownBy_alloc _ _ _), readsOneB v0 40 5⟩
      clear AL
      generalize v0.alloc (.cells #[.int .u8 40] 5) = v1 at *
      generalize v0.heap.size = p1 at *
      refine hK.out _ _ ⟨AN.out.1.tri, HT.out _ AN.out.1.fr⟩ (fun hH2 => ?_)
      clear hK K hH
      have hH := hH2
      clear hH2
      simp only [Act.put, List.setIfInBounds_toArray, List.set_cons_zero, List.set_cons_succ, List.getElem_toArray, List.getElem_cons_succ, List.getElem_cons_zero]
      refine wpAnyH_ready (rs := [2]) (by kernel_rfl) (by simp) ?_
      refine AllReadyH.cons rfl (fun K hK => ?_) AllReadyH.nil
      refine step_of rfl (wp_appB _ _ 22 rfl W0.heap.size i0 (.int .u8 0) Tryd.underlying22 hi hz0 hz1 hz2 rfl _ _ _ rfl AN.out.1.own (some ⟨p1, 0, none⟩) 1 1 [40] rfl AN.out.2 (by first | (simp; done) | assumption) hz9 AN.out.1.size ?_)
      intro v3 u3 o2 g2 n2
      have AL : Hid (SayS W0 wx qx _ _ _ _ _ v3 _ u3) := AN.out.1.app o2 AN.out.2.1 g2
      clear AN o2 g2 n2
      refine hK.out _ _ ⟨AL.out.tri, HT.out _ AL.out.fr⟩ (fun hH2 => ?_)
      clear hK K hH
      have hH := hH2
      clear hH2
      simp only [Act.put, List.setIfInBounds_toArray, List.set_cons_zero, List.set_cons_succ, List.getElem_toArray, List.getElem_cons_succ, List.getElem_cons_zero]
      refine wpAnyH_ready (rs := [5]) (by kernel_rfl) (by simp) ?_
      refine AllReadyH.cons rfl (fun K hK => ?_) AllReadyH.nil
      refine step_of rfl (wp_strB _ _ 22 9 rfl W0.heap.size i0 Tryd.underlying22 Tryd.underlying9 hi hz0 hz1 hz2 _ _ _ rfl AL.out.own _ [112, 97, 105, 114] rfl rfl hz8 AL.out.size ?_)
      intro v5 u5 o2 g2
      have AN : Hid (SayS W0 wx qx _ _ _ _ _ v5 _ u5) := AL.out.app o2 rfl g2
      clear AL o2 g2
      have AL := AN
      clear AN
      refine hK.out _ _ ⟨AL.out.tri, HT.out _ AL.out.fr⟩ (fun hH2 => ?_)
      clear hK K hH
      have hH := hH2
      clear hH2
      simp only [Act.put, List.setIfInBounds_toArray, List.set_cons_zero, List.set_cons_succ, List.getElem_toArray, List.getElem_cons_succ, List.getElem_cons_zero]
      refine wpAnyH_take (i := 6) (v := ?_) rfl (by kernel_rfl) (by kernel_rfl) (by kernel_rfl) (fun _ _ _ h => h) (Or.inl ⟨by rfl, ?_⟩) hH ?_
      rotate_left
      · (intro v hS; go_simp; try with_reducible rfl)
      simp only [Act.put, List.setIfInBounds_toArray, List.set_cons_zero, List.set_cons_succ, List.getElem_toArray, List.getElem_cons_succ, List.getElem_cons_zero]
      refine wpAnyH_done (by kernel_rfl) ?_ _
      clear hH HT
      have AN : Hid (SayS W0 wx qx 3 n a l c v5 (zs ++ ([40] ++ [112, 97, 105, 114])) u5) := AL.out.as (by simp)
      clear AL
      have AL := AN
      clear AN
      rcases HS.out.1.cases with ⟨rfl, rfl⟩ | ⟨b, o, rfl, hin, -, hpos⟩
      · obtain ⟨⟨y0, y1, y2⟩, -⟩ := three AL.out.box
        have EF : Hid (zs ++ ([40] ++ [112, 97, 105, 114]) ++ [41] = zs ++ sayT 3 n .nil) := by show _ = _; rw [EH.out]; simp [sayF]
        have hz9 : (zs ++ ([40] ++ [112, 97, 105, 114])).length + 1 ≤ 1048576 := by rw [List.length_append]; have := HL.out; omega
        have AN : Hid (SayN W0 wx v5 (zs ++ ([40] ++ [112, 97, 105, 114])) u5) := ⟨AL.out.fr, AL.out.own, AL.out.size⟩
        clear IH HS HF AL
        have AL := AN
        clear AN
        go_wp2
        refine wp_loop_rounds 1 ?_
        rw [rounds_succ]
        go_upto_region 18 with fail
        clear y0 y1 y2
        have ga := World.grownBy_alloc u5 (.cells #[.int .u8 41] 5) none
        have AN : Hid (SayN W0 wx v5 (zs ++ ([40] ++ [112, 97, 105, 114])) (u5.alloc (.cells #[.int .u8 41] 5)) ∧ Reads (u5.alloc (.cells #[.int .u8 41] 5)) (some ⟨u5.heap.size, 0, none⟩) 1 [41]) := ⟨AL.out.grown ga, readsOneB u5 41 5⟩
        clear ga AL
        go_wp2_with (at_builtin; go_must (refine wpList_appB rfl _ _ 22 rfl W0.heap.size i0 (.int .u8 0) Tryd.underlying22 hi hz0 hz1 hz2 rfl v5 (zs ++ ([40] ++ [112, 97, 105, 114])).length (zs ++ ([40] ++ [112, 97, 105, 114])) rfl AN.out.1.own (some ⟨u5.heap.size, 0, none⟩) 1 1 [41] rfl AN.out.2 (by simp) (by omega) AN.out.1.size ?_); intro v9 u9 o9 g9 n9)
        have FN := AN.out.1.app o9 rfl g9
        rw [EF.out] at FN
        have FF : Hid (SayN W0 wx v9 _ u9) := FN
        clear AN FN o9 g9 n9
        go_ret
        exact ⟨v9, rfl, FF.out.own, F7.out.trans FF.out.fr⟩
      have IN : Hid (InF W0 d b o) := hin
      have HB : Hid (Below W0.heap.size W0 wx) := HS.out.2.trans F7.out.below
      have hokd : okF d p = true := HF.out.2
      clear hin HS HF
      obtain ⟨⟨y0, y1, y2⟩, -⟩ := three AL.out.box
      have AN : Hid (SayN W0 wx v5 (zs ++ ([40] ++ [112, 97, 105, 114])) u5) := ⟨AL.out.fr, AL.out.own, AL.out.size⟩
      clear AL
      go_wp2
      clear y0 y1 y2
      go_loopw [0, 49] (fun v i wr => ∃ (j : Nat) (R : F) (pre : List Int), j ≤ l ∧ i = .int .i64 j ∧ R.len + j = l ∧ R.size ≤ d.size ∧ zs.length + pre.length + 12 * R.size + 1 ≤ 1000000 ∧ Hid (InF W0 R b (o + j * 3)) ∧ Hid (okF R p = true) ∧ Hid (pre ++ sayF R = ([40] ++ [112, 97, 105, 114]) ++ sayF d) ∧ Hid (SayN W0 wx v (zs ++ pre) wr)) (fun _ i _ => l - (intOf i).toNat)
      case atStart => exact ⟨0, d, ([40] ++ [112, 97, 105, 114]), Nat.zero_le _, rfl, by omega, Nat.le_refl _, by have := HL.out; omega, by simpa using IN, hokd, rfl, AN⟩
      case round =>
        clear AN IN hokd
        obtain ⟨j, R, pre, hj, rfl, hRl, hRs, hus, hR, hokR, hP, AL⟩ := hrel
        by_cases hlt : j < l
        · have hlt' : (j : Int) < l := by omega
          obtain ⟨q1, hq1⟩ : ∃ q, R.len = q + 1 := ⟨R.len - 1, by omega⟩
          obtain ⟨kk, nn, d', R', rfl, hR'⟩ := F.cons_of_len hq1
          obtain ⟨a2, l2, c2, z0, z1, z2, hd2, hR2⟩ := hR.out.out
          have e3 : o + j * 3 + 3 = o + (j + 1) * 3 := by omega
          rw [e3] at hR2
          have hokc := hokR.out
          simp only [okF, Bool.and_eq_true, decide_eq_true_eq] at hokc
          have hds : d'.size < m := by simp only [F.size] at hRs hm; omega
          have hRs' : R'.size ≤ d.size := by simp only [F.size] at hRs; omega
          have hsz : (F.cons kk nn d' R').size = 1 + d'.size + R'.size := rfl
          rw [hsz] at hus
          have hbu := HB.out.trans AL.out.fr.below
          have t0 := (hbu.cell (p := ⟨b, o + j * 3, none⟩) (block_lt_of_cell z0)).trans z0
          have t1 := (hbu.cell (p := ⟨b, o + j * 3 + 1, none⟩) (block_lt_of_cell z1)).trans z1
          have t2 := (hbu.cell (p := ⟨b, o + j * 3 + 2, none⟩) (block_lt_of_cell z2)).trans z2
          have CC : Hid _ := fun v0 u0 (hu : FrS W0.heap.size wx u0) h1 => IH.out d' kk nn a2 l2 c2 v0 (zs ++ pre ++ [32]) u0 (p - 1) hds hd2 (HB.out.trans hu.below) h1 (by rw [← hd2.1]; exact hokc.1.1.2) hokc.1.2 (by rw [List.length_append, List.length_append, List.length_singleton]; omega)
          have hsl := sayT_len kk nn d' hokc.1.1.2 hokc.1.2
          have FX : Hid (InF W0 R' b (o + (j + 1) * 3) ∧ okF R' p = true ∧ zs.length + (pre ++ ([32] ++ sayT kk nn d')).length + 12 * R'.size + 1 ≤ 1000000 ∧ (pre ++ ([32] ++ sayT kk nn d')) ++ sayF R' = ([40] ++ [112, 97, 105, 114]) ++ sayF d) := ⟨hR2, hokc.2, by simp only [List.length_append, List.length_singleton]; omega, by rw [← hP.out]; simp [sayF, sayT]⟩
          have hz9 : (zs ++ pre).length + 1 ≤ 1048576 := by rw [List.length_append]; omega
          clear hR hR2 hd2 hP hokc hokR z0 z1 z2 hsz hRs hsl hbu
          go_upto_region 16 with fail
          have ga := World.grownBy_alloc wr (.cells #[.int .i64 kk, .int .i64 nn, .slice a2 l2 c2] 25) none
          have AN := AL.out.grown ga
          have gd := grown_drew (World.grownBy.refl (wr.alloc (.cells #[.int .i64 kk, .int .i64 nn, .slice a2 l2 c2] 25)) none)
          have AM := AN.grown gd
          have AD : Hid (SayS W0 wx wr.heap.size kk nn a2 l2 c2 _ _ (wr.alloc (.cells #[.int .i64 kk, .int .i64 nn, .slice a2 l2 c2] 25)).drew) := ⟨AM.fr, (gd.block _ (by simp) (by simp)).trans (heap_alloc_new wr _), AM.own, AM.size⟩
          clear AL ga gd AN AM t0 t1 t2
          generalize (wr.alloc (.cells #[.int .i64 kk, .int .i64 nn, .slice a2 l2 c2] 25)) = wr1 at *
          generalize wr.heap.size = qx at *
          refine wp_region_held_drew (S := (fun u => Tri qx 0 (.int .i64 kk) (.int .i64 nn) (.slice a2 l2 c2) u)) (by kernel_rfl) AD.out.tri (fun hH => ?_)
          have AL := AD
          clear AD
          generalize wr1.drew = v0 at *
          simp only [List.size_toArray, List.length_cons, List.length_nil, Nat.reduceAdd, Array.replicate, List.replicate]
          refine wpAnyH_take (i := 0) (v := ?_) rfl (by kernel_rfl) (by kernel_rfl) (by kernel_rfl) (fun _ _ _ h => h) (Or.inl ⟨by rfl, ?_⟩) hH ?_
          rotate_left
          · (intro v hS; obtain ⟨s0, s1, s2⟩ := hS; go_simp; try with_reducible rfl)
          simp only [Act.put, List.setIfInBounds_toArray, List.set_cons_zero, List.set_cons_succ, List.getElem_toArray, List.getElem_cons_succ, List.getElem_cons_zero]
          refine wpAnyH_take (i := 3) (v := ?_) rfl (by kernel_rfl) (by kernel_rfl) (by kernel_rfl) (fun _ _ _ h => h) (Or.inl ⟨by rfl, ?_⟩) hH ?_
          rotate_left
          · (intro v hS; obtain ⟨s0, s1, s2⟩ := hS; go_simp; try with_reducible rfl)
          simp only [Act.put, List.setIfInBounds_toArray, List.set_cons_zero, List.set_cons_succ, List.getElem_toArray, List.getElem_cons_succ, List.getElem_cons_zero]
          refine wpAnyH_ready (rs := [1]) (by kernel_rfl) (by simp) ?_
          refine AllReadyH.cons rfl (fun K hK => ?_) AllReadyH.nil
          go_simp
          have AN : Hid (SayS W0 wx qx _ _ _ _ _ _ _ (v0.alloc (.cells #[.int .u8 32] 5)) ∧ Reads (v0.alloc (.cells #[.int .u8 32] 5)) (some ⟨v0.heap.size, 0, none⟩) 1 [32]) := ⟨AL.out.grown (World.grownBy_alloc _ _ _), readsOneB v0 32 5⟩
          clear AL
          generalize v0.alloc (.cells #[.int .u8 32] 5) = v1 at *
          generalize v0.heap.size = p1 at *
          refine hK.out _ _ AN.out.1.tri (fun hH2 => ?_)
          clear hK K hH
          have hH := hH2
          clear hH2
          simp only [Act.put, List.setIfInBounds_toArray, List.set_cons_zero, List.set_cons_succ, List.getElem_toArray, List.getElem_cons_succ, List.getElem_cons_zero]
          refine wpAnyH_ready (rs := [2]) (by kernel_rfl) (by simp) ?_
          refine AllReadyH.cons rfl (fun K hK => ?_) AllReadyH.nil
          refine step_of rfl (wp_appB _ _ 22 rfl W0.heap.size i0 (.int .u8 0) Tryd.underlying22 hi hz0 hz1 hz2 rfl _ _ _ rfl AN.out.1.own (some ⟨p1, 0, none⟩) 1 1 [32] rfl AN.out.2 (by first | (simp; done) | assumption) hz9 AN.out.1.size ?_)
          intro v3 u3 o2 g2 n2
          have AL : Hid (SayS W0 wx qx _ _ _ _ _ v3 _ u3) := AN.out.1.app o2 AN.out.2.1 g2
          clear AN o2 g2 n2
          refine hK.out _ _ AL.out.tri (fun hH2 => ?_)
          clear hK K hH
          have hH := hH2
          clear hH2
          simp only [Act.put, List.setIfInBounds_toArray, List.set_cons_zero, List.set_cons_succ, List.getElem_toArray, List.getElem_cons_succ, List.getElem_cons_zero]
          refine wpAnyH_ready (rs := [4]) (by kernel_rfl) (by simp) ?_
          refine AllReadyH.cons rfl (fun K hK => ?_) AllReadyH.nil
          go_simp
          refine Calls.mono (CC.out v3 u3 AL.out.fr AL.out.own) ?_
          rintro e u4 ⟨v4, he, hO4, hF4⟩
          subst he
          have AN : Hid (SayN W0 wx v4 (zs ++ (pre ++ ([32] ++ sayT kk nn d'))) u4) := ⟨AL.out.fr.trans hF4, by simpa using hO4, Nat.le_trans AL.out.size hF4.below.size⟩
          have hbx := hF4.three AL.out.box (by decide)
          refine hK.out _ _ (three hbx).1 (fun hH2 => ?_)
          clear AL hO4 hF4 CC hbx
          clear hK K hH
          have hH := hH2
          clear hH2
          simp only [Act.put, List.setIfInBounds_toArray, List.set_cons_zero, List.set_cons_succ, List.getElem_toArray, List.getElem_cons_succ, List.getElem_cons_zero]
          refine wpAnyH_take (i := 5) (v := ?_) rfl (by kernel_rfl) (by kernel_rfl) (by kernel_rfl) (fun _ _ _ h => h) (Or.inl ⟨by rfl, ?_⟩) hH ?_
          rotate_left
          · (intro v hS; go_simp; try with_reducible rfl)
          simp only [Act.put, List.setIfInBounds_toArray, List.set_cons_zero, List.set_cons_succ, List.getElem_toArray, List.getElem_cons_succ, List.getElem_cons_zero]
          refine wpAnyH_done (by kernel_rfl) ?_ _
          clear hH
          go_wp2
          go_roundw
          case rel => exact ⟨j + 1, R', pre ++ ([32] ++ sayT kk nn d'), by omega, by go_num, by omega, hRs', FX.out.2.2.1, FX.out.1, FX.out.2.1, FX.out.2.2.2, AN⟩
          case measure => simp [intOf]; omega
        · obtain rfl : j = l := by omega
          obtain rfl : R = .nil := F.nil_of_len (by omega)
          have EF : Hid (zs ++ pre ++ [41] = zs ++ sayT 3 n d) := by
            show _ = _
            have e := hP.out
            simp only [sayF, List.append_nil] at e
            rw [EH.out, e]; simp
          have hz9 : (zs ++ pre).length + 1 ≤ 1048576 := by rw [List.length_append]; omega
          clear hP hR hokR IH
          go_upto_region 18 with fail
          have ga := World.grownBy_alloc wr (.cells #[.int .u8 41] 5) none
          have AN : Hid (SayN W0 wx _ (zs ++ pre) (wr.alloc (.cells #[.int .u8 41] 5)) ∧ Reads (wr.alloc (.cells #[.int .u8 41] 5)) (some ⟨wr.heap.size, 0, none⟩) 1 [41]) := ⟨AL.out.grown ga, readsOneB wr 41 5⟩
          clear ga AL
          go_wp2_with (at_builtin; go_must (refine wpList_appB rfl _ _ 22 rfl W0.heap.size i0 (.int .u8 0) Tryd.underlying22 hi hz0 hz1 hz2 rfl _ (zs ++ pre).length (zs ++ pre) rfl AN.out.1.own (some ⟨wr.heap.size, 0, none⟩) 1 1 [41] rfl AN.out.2 (by simp) (by omega) AN.out.1.size ?_); intro v9 u9 o9 g9 n9)
          have FN := AN.out.1.app o9 rfl g9
          rw [EF.out] at FN
          have FF : Hid (SayN W0 wx v9 _ u9) := FN
          clear AN FN o9 g9 n9
          go_ret
          exact ⟨v9, rfl, FF.out.own, F7.out.trans FF.out.fr⟩
    by_cases h4 : k = 4
    · subst h4
      have E : shpV 4 = .iface 73 (.agg #[.string ⟨#[102, 117, 110]⟩, .int .i64 2, .bool true]) := rfl
      rw [E]
      have t1 := asVarFix (.agg #[.string ⟨#[102, 117, 110]⟩, .int .i64 2, .bool true])
      have t2 := asDataFix (.agg #[.string ⟨#[102, 117, 110]⟩, .int .i64 2, .bool true])
      have t3 := asFixFix (.agg #[.string ⟨#[102, 117, 110]⟩, .int .i64 2, .bool true])
      have EH : Hid (sayT 4 n d = [40] ++ [102, 117, 110] ++ (sayF d ++ [41])) := by show _ = _; simp [sayT, bodyS, headS, wordB]
      have HL : Hid (zs.length + ([40] ++ [102, 117, 110] : List Int).length + 12 * d.size + 1 ≤ 1000000) := by show _ ≤ _; simp only [List.length_append, List.length_cons, List.length_nil]; omega
      have hz9 : zs.length + 1 ≤ 1048576 := by omega
      have hz8 : (zs ++ [40]).length + ([102, 117, 110] : List Int).length ≤ 1048576 := by simp only [List.length_append, List.length_cons, List.length_nil]; omega
      have ga := World.grownBy_alloc w2 (.cells #[.string ⟨#[102, 117, 110]⟩, .int .i64 2, .bool true] 73) none
      have F7 : Hid (FrS W0.heap.size w (w2.alloc (.cells #[.string ⟨#[102, 117, 110]⟩, .int .i64 2, .bool true] 73))) := (AL.out.grown ga).fr
      have AN := AL.out.grown ga
      have AM : Hid (SayS W0 (w2.alloc (.cells #[.string ⟨#[102, 117, 110]⟩, .int .i64 2, .bool true] 73)) q _ n a l c v zs (w2.alloc (.cells #[.string ⟨#[102, 117, 110]⟩, .int .i64 2, .bool true] 73))) := ⟨FrS.refl _ _, AN.box, AN.own, AN.size⟩
      have bx := (three (heap_alloc_new w2 (.cells #[.string ⟨#[102, 117, 110]⟩, .int .i64 2, .bool true] 73))).1
      have BX : Hid ((w2.alloc (.cells #[.string ⟨#[102, 117, 110]⟩, .int .i64 2, .bool true] 73)).heap[w2.heap.size]? = some (.cells #[.string ⟨#[102, 117, 110]⟩, .int .i64 2, .bool true] 73)) := heap_alloc_new w2 _
      obtain ⟨b0, b1, b2⟩ := bx
      clear E ga AN AL x0 x1 x2
      go_upto_region 12 with fail
      generalize w2.alloc (.cells #[.string ⟨#[102, 117, 110]⟩, .int .i64 2, .bool true] 73) = wx at *
      generalize w2.heap.size = q7 at *
      have HT : Hid (∀ u, FrS W0.heap.size wx u → Tri q7 0 (.string ⟨#[102, 117, 110]⟩) (.int .i64 2) (.bool true) u) := fun u hu => (three (hu.three BX.out (by decide))).1
      have AD : Hid (SayS W0 wx q 4 n a l c v zs wx.drew) := AM.out.grown (grown_drew (World.grownBy.refl _ none))
      clear AM b0 b1 b2 BX
      generalize eqx : q = qx at *
      refine wp_region_held_drew (S := (fun u => Tri qx 0 (.int .i64 4) (.int .i64 n) (.slice a l c) u ∧ Tri q7 0 (.string ⟨#[102, 117, 110]⟩) (.int .i64 2) (.bool true) u)) (by kernel_rfl) ⟨AD.out.tri, HT.out _ AD.out.fr⟩ (fun hH => ?_)
      have AL := AD
      clear AD
      generalize wx.drew = v0 at *
      simp only [List.size_toArray, List.length_cons, List.length_nil, Nat.reduceAdd, Array.replicate, List.replicate]
      refine wpAnyH_take (i := 0) (v := ?_) rfl (by kernel_rfl) (by kernel_rfl) (by kernel_rfl) (fun _ _ _ h => h) (Or.inl ⟨by rfl, ?_⟩) hH ?_
      rotate_left
      · (intro v hS; obtain ⟨⟨s0, s1, s2⟩, ⟨r0, r1, r2⟩⟩ := hS; go_simp; try with_reducible rfl)
      simp only [Act.put, List.setIfInBounds_toArray, List.set_cons_zero, List.set_cons_succ, List.getElem_toArray, List.getElem_cons_succ, List.getElem_cons_zero]
      refine wpAnyH_take (i := 3) (v := ?_) rfl (by kernel_rfl) (by kernel_rfl) (by kernel_rfl) (fun _ _ _ h => h) (Or.inl ⟨by rfl, ?_⟩) hH ?_
      rotate_left
      · (intro v hS; obtain ⟨⟨s0, s1, s2⟩, ⟨r0, r1, r2⟩⟩ := hS; go_simp; try with_reducible rfl)
      simp only [Act.put, List.setIfInBounds_toArray, List.set_cons_zero, List.set_cons_succ, List.getElem_toArray, List.getElem_cons_succ, List.getElem_cons_zero]
      refine wpAnyH_take (i := 4) (v := ?_) rfl (by kernel_rfl) (by kernel_rfl) (by kernel_rfl) (fun _ _ _ h => h) (Or.inl ⟨by rfl, ?_⟩) hH ?_
      rotate_left
      · (intro v hS; obtain ⟨⟨s0, s1, s2⟩, ⟨r0, r1, r2⟩⟩ := hS; go_simp; try with_reducible rfl)
      simp only [Act.put, List.setIfInBounds_toArray, List.set_cons_zero, List.set_cons_succ, List.getElem_toArray, List.getElem_cons_succ, List.getElem_cons_zero]
      refine wpAnyH_ready (rs := [1]) (by kernel_rfl) (by simp) ?_
      refine AllReadyH.cons rfl (fun K hK => ?_) AllReadyH.nil
      go_simp
      have AN : Hid (SayS W0 wx qx _ _ _ _ _ _ _ (v0.alloc (.cells #[.int .u8 40] 5)) ∧ Reads (v0.alloc (.cells #[.int .u8 40] 5)) (some ⟨v0.heap.size, 0, none⟩) 1 [40]) := ⟨AL.out.grown (World.grownBy_alloc _ _ _), readsOneB v0 40 5⟩
      clear AL
      generalize v0.alloc (.cells #[.int .u8 40] 5) = v1 at *
      generalize v0.heap.size = p1 at *
      refine hK.out _ _ ⟨AN.out.1.tri, HT.out _ AN.out.1.fr⟩ (fun hH2 => ?_)
      clear hK K hH
      have hH := hH2
      clear hH2
      simp only [Act.put, List.setIfInBounds_toArray, List.set_cons_zero, List.set_cons_succ, List.getElem_toArray, List.getElem_cons_succ, List.getElem_cons_zero]
      refine wpAnyH_ready (rs := [2]) (by kernel_rfl) (by simp) ?_
      refine AllReadyH.cons rfl (fun K hK => ?_) AllReadyH.nil
      refine step_of rfl (wp_appB _ _ 22 rfl W0.heap.size i0 (.int .u8 0) Tryd.underlying22 hi hz0 hz1 hz2 rfl _ _ _ rfl AN.out.1.own (some ⟨p1, 0, none⟩) 1 1 [40] rfl AN.out.2 (by first | (simp; done) | assumption) hz9 AN.out.1.size ?_)
      intro v3 u3 o2 g2 n2
      have AL : Hid (SayS W0 wx qx _ _ _ _ _ v3 _ u3) := AN.out.1.app o2 AN.out.2.1 g2
      clear AN o2 g2 n2
      refine hK.out _ _ ⟨AL.out.tri, HT.out _ AL.out.fr⟩ (fun hH2 => ?_)
      clear hK K hH
      have hH := hH2
      clear hH2
      simp only [Act.put, List.setIfInBounds_toArray, List.set_cons_zero, List.set_cons_succ, List.getElem_toArray, List.getElem_cons_succ, List.getElem_cons_zero]
      refine wpAnyH_ready (rs := [5]) (by kernel_rfl) (by simp) ?_
      refine AllReadyH.cons rfl (fun K hK => ?_) AllReadyH.nil
      refine step_of rfl (wp_strB _ _ 22 9 rfl W0.heap.size i0 Tryd.underlying22 Tryd.underlying9 hi hz0 hz1 hz2 _ _ _ rfl AL.out.own _ [102, 117, 110] rfl rfl hz8 AL.out.size ?_)
      intro v5 u5 o2 g2
      have AN : Hid (SayS W0 wx qx _ _ _ _ _ v5 _ u5) := AL.out.app o2 rfl g2
      clear AL o2 g2
      have AL := AN
      clear AN
      refine hK.out _ _ ⟨AL.out.tri, HT.out _ AL.out.fr⟩ (fun hH2 => ?_)
      clear hK K hH
      have hH := hH2
      clear hH2
      simp only [Act.put, List.setIfInBounds_toArray, List.set_cons_zero, List.set_cons_succ, List.getElem_toArray, List.getElem_cons_succ, List.getElem_cons_zero]
      refine wpAnyH_take (i := 6) (v := ?_) rfl (by kernel_rfl) (by kernel_rfl) (by kernel_rfl) (fun _ _ _ h => h) (Or.inl ⟨by rfl, ?_⟩) hH ?_
      rotate_left
      · (intro v hS; go_simp; try with_reducible rfl)
      simp only [Act.put, List.setIfInBounds_toArray, List.set_cons_zero, List.set_cons_succ, List.getElem_toArray, List.getElem_cons_succ, List.getElem_cons_zero]
      refine wpAnyH_done (by kernel_rfl) ?_ _
      clear hH HT
      have AN : Hid (SayS W0 wx qx 4 n a l c v5 (zs ++ ([40] ++ [102, 117, 110])) u5) := AL.out.as (by simp)
      clear AL
      have AL := AN
      clear AN
      rcases HS.out.1.cases with ⟨rfl, rfl⟩ | ⟨b, o, rfl, hin, -, hpos⟩
      · obtain ⟨⟨y0, y1, y2⟩, -⟩ := three AL.out.box
        have EF : Hid (zs ++ ([40] ++ [102, 117, 110]) ++ [41] = zs ++ sayT 4 n .nil) := by show _ = _; rw [EH.out]; simp [sayF]
        have hz9 : (zs ++ ([40] ++ [102, 117, 110])).length + 1 ≤ 1048576 := by rw [List.length_append]; have := HL.out; omega
        have AN : Hid (SayN W0 wx v5 (zs ++ ([40] ++ [102, 117, 110])) u5) := ⟨AL.out.fr, AL.out.own, AL.out.size⟩
        clear IH HS HF AL
        have AL := AN
        clear AN
        go_wp2
        refine wp_loop_rounds 1 ?_
        rw [rounds_succ]
        go_upto_region 18 with fail
        clear y0 y1 y2
        have ga := World.grownBy_alloc u5 (.cells #[.int .u8 41] 5) none
        have AN : Hid (SayN W0 wx v5 (zs ++ ([40] ++ [102, 117, 110])) (u5.alloc (.cells #[.int .u8 41] 5)) ∧ Reads (u5.alloc (.cells #[.int .u8 41] 5)) (some ⟨u5.heap.size, 0, none⟩) 1 [41]) := ⟨AL.out.grown ga, readsOneB u5 41 5⟩
        clear ga AL
        go_wp2_with (at_builtin; go_must (refine wpList_appB rfl _ _ 22 rfl W0.heap.size i0 (.int .u8 0) Tryd.underlying22 hi hz0 hz1 hz2 rfl v5 (zs ++ ([40] ++ [102, 117, 110])).length (zs ++ ([40] ++ [102, 117, 110])) rfl AN.out.1.own (some ⟨u5.heap.size, 0, none⟩) 1 1 [41] rfl AN.out.2 (by simp) (by omega) AN.out.1.size ?_); intro v9 u9 o9 g9 n9)
        have FN := AN.out.1.app o9 rfl g9
        rw [EF.out] at FN
        have FF : Hid (SayN W0 wx v9 _ u9) := FN
        clear AN FN o9 g9 n9
        go_ret
        exact ⟨v9, rfl, FF.out.own, F7.out.trans FF.out.fr⟩
      have IN : Hid (InF W0 d b o) := hin
      have HB : Hid (Below W0.heap.size W0 wx) := HS.out.2.trans F7.out.below
      have hokd : okF d p = true := HF.out.2
      clear hin HS HF
      obtain ⟨⟨y0, y1, y2⟩, -⟩ := three AL.out.box
      have AN : Hid (SayN W0 wx v5 (zs ++ ([40] ++ [102, 117, 110])) u5) := ⟨AL.out.fr, AL.out.own, AL.out.size⟩
      clear AL
      go_wp2
      clear y0 y1 y2
      go_loopw [0, 49] (fun v i wr => ∃ (j : Nat) (R : F) (pre : List Int), j ≤ l ∧ i = .int .i64 j ∧ R.len + j = l ∧ R.size ≤ d.size ∧ zs.length + pre.length + 12 * R.size + 1 ≤ 1000000 ∧ Hid (InF W0 R b (o + j * 3)) ∧ Hid (okF R p = true) ∧ Hid (pre ++ sayF R = ([40] ++ [102, 117, 110]) ++ sayF d) ∧ Hid (SayN W0 wx v (zs ++ pre) wr)) (fun _ i _ => l - (intOf i).toNat)
      case atStart => exact ⟨0, d, ([40] ++ [102, 117, 110]), Nat.zero_le _, rfl, by omega, Nat.le_refl _, by have := HL.out; omega, by simpa using IN, hokd, rfl, AN⟩
      case round =>
        clear AN IN hokd
        obtain ⟨j, R, pre, hj, rfl, hRl, hRs, hus, hR, hokR, hP, AL⟩ := hrel
        by_cases hlt : j < l
        · have hlt' : (j : Int) < l := by omega
          obtain ⟨q1, hq1⟩ : ∃ q, R.len = q + 1 := ⟨R.len - 1, by omega⟩
          obtain ⟨kk, nn, d', R', rfl, hR'⟩ := F.cons_of_len hq1
          obtain ⟨a2, l2, c2, z0, z1, z2, hd2, hR2⟩ := hR.out.out
          have e3 : o + j * 3 + 3 = o + (j + 1) * 3 := by omega
          rw [e3] at hR2
          have hokc := hokR.out
          simp only [okF, Bool.and_eq_true, decide_eq_true_eq] at hokc
          have hds : d'.size < m := by simp only [F.size] at hRs hm; omega
          have hRs' : R'.size ≤ d.size := by simp only [F.size] at hRs; omega
          have hsz : (F.cons kk nn d' R').size = 1 + d'.size + R'.size := rfl
          rw [hsz] at hus
          have hbu := HB.out.trans AL.out.fr.below
          have t0 := (hbu.cell (p := ⟨b, o + j * 3, none⟩) (block_lt_of_cell z0)).trans z0
          have t1 := (hbu.cell (p := ⟨b, o + j * 3 + 1, none⟩) (block_lt_of_cell z1)).trans z1
          have t2 := (hbu.cell (p := ⟨b, o + j * 3 + 2, none⟩) (block_lt_of_cell z2)).trans z2
          have CC : Hid _ := fun v0 u0 (hu : FrS W0.heap.size wx u0) h1 => IH.out d' kk nn a2 l2 c2 v0 (zs ++ pre ++ [32]) u0 (p - 1) hds hd2 (HB.out.trans hu.below) h1 (by rw [← hd2.1]; exact hokc.1.1.2) hokc.1.2 (by rw [List.length_append, List.length_append, List.length_singleton]; omega)
          have hsl := sayT_len kk nn d' hokc.1.1.2 hokc.1.2
          have FX : Hid (InF W0 R' b (o + (j + 1) * 3) ∧ okF R' p = true ∧ zs.length + (pre ++ ([32] ++ sayT kk nn d')).length + 12 * R'.size + 1 ≤ 1000000 ∧ (pre ++ ([32] ++ sayT kk nn d')) ++ sayF R' = ([40] ++ [102, 117, 110]) ++ sayF d) := ⟨hR2, hokc.2, by simp only [List.length_append, List.length_singleton]; omega, by rw [← hP.out]; simp [sayF, sayT]⟩
          have hz9 : (zs ++ pre).length + 1 ≤ 1048576 := by rw [List.length_append]; omega
          clear hR hR2 hd2 hP hokc hokR z0 z1 z2 hsz hRs hsl hbu
          go_upto_region 16 with fail
          have ga := World.grownBy_alloc wr (.cells #[.int .i64 kk, .int .i64 nn, .slice a2 l2 c2] 25) none
          have AN := AL.out.grown ga
          have gd := grown_drew (World.grownBy.refl (wr.alloc (.cells #[.int .i64 kk, .int .i64 nn, .slice a2 l2 c2] 25)) none)
          have AM := AN.grown gd
          have AD : Hid (SayS W0 wx wr.heap.size kk nn a2 l2 c2 _ _ (wr.alloc (.cells #[.int .i64 kk, .int .i64 nn, .slice a2 l2 c2] 25)).drew) := ⟨AM.fr, (gd.block _ (by simp) (by simp)).trans (heap_alloc_new wr _), AM.own, AM.size⟩
          clear AL ga gd AN AM t0 t1 t2
          generalize (wr.alloc (.cells #[.int .i64 kk, .int .i64 nn, .slice a2 l2 c2] 25)) = wr1 at *
          generalize wr.heap.size = qx at *
          refine wp_region_held_drew (S := (fun u => Tri qx 0 (.int .i64 kk) (.int .i64 nn) (.slice a2 l2 c2) u)) (by kernel_rfl) AD.out.tri (fun hH => ?_)
          have AL := AD
          clear AD
          generalize wr1.drew = v0 at *
          simp only [List.size_toArray, List.length_cons, List.length_nil, Nat.reduceAdd, Array.replicate, List.replicate]
          refine wpAnyH_take (i := 0) (v := ?_) rfl (by kernel_rfl) (by kernel_rfl) (by kernel_rfl) (fun _ _ _ h => h) (Or.inl ⟨by rfl, ?_⟩) hH ?_
          rotate_left
          · (intro v hS; obtain ⟨s0, s1, s2⟩ := hS; go_simp; try with_reducible rfl)
          simp only [Act.put, List.setIfInBounds_toArray, List.set_cons_zero, List.set_cons_succ, List.getElem_toArray, List.getElem_cons_succ, List.getElem_cons_zero]
          refine wpAnyH_take (i := 3) (v := ?_) rfl (by kernel_rfl) (by kernel_rfl) (by kernel_rfl) (fun _ _ _ h => h) (Or.inl ⟨by rfl, ?_⟩) hH ?_
          rotate_left
          · (intro v hS; obtain ⟨s0, s1, s2⟩ := hS; go_simp; try with_reducible rfl)
          simp only [Act.put, List.setIfInBounds_toArray, List.set_cons_zero, List.set_cons_succ, List.getElem_toArray, List.getElem_cons_succ, List.getElem_cons_zero]
          refine wpAnyH_ready (rs := [1]) (by kernel_rfl) (by simp) ?_
          refine AllReadyH.cons rfl (fun K hK => ?_) AllReadyH.nil
          go_simp
          have AN : Hid (SayS W0 wx qx _ _ _ _ _ _ _ (v0.alloc (.cells #[.int .u8 32] 5)) ∧ Reads (v0.alloc (.cells #[.int .u8 32] 5)) (some ⟨v0.heap.size, 0, none⟩) 1 [32]) := ⟨AL.out.grown (World.grownBy_alloc _ _ _), readsOneB v0 32 5⟩
          clear AL
          generalize v0.alloc (.cells #[.int .u8 32] 5) = v1 at *
          generalize v0.heap.size = p1 at *
          refine hK.out _ _ AN.out.1.tri (fun hH2 => ?_)
          clear hK K hH
          have hH := hH2
          clear hH2
          simp only [Act.put, List.setIfInBounds_toArray, List.set_cons_zero, List.set_cons_succ, List.getElem_toArray, List.getElem_cons_succ, List.getElem_cons_zero]
          refine wpAnyH_ready (rs := [2]) (by kernel_rfl) (by simp) ?_
          refine AllReadyH.cons rfl (fun K hK => ?_) AllReadyH.nil
          refine step_of rfl (wp_appB _ _ 22 rfl W0.heap.size i0 (.int .u8 0) Tryd.underlying22 hi hz0 hz1 hz2 rfl _ _ _ rfl AN.out.1.own (some ⟨p1, 0, none⟩) 1 1 [32] rfl AN.out.2 (by first | (simp; done) | assumption) hz9 AN.out.1.size ?_)
          intro v3 u3 o2 g2 n2
          have AL : Hid (SayS W0 wx qx _ _ _ _ _ v3 _ u3) := AN.out.1.app o2 AN.out.2.1 g2
          clear AN o2 g2 n2
          refine hK.out _ _ AL.out.tri (fun hH2 => ?_)
          clear hK K hH
          have hH := hH2
          clear hH2
          simp only [Act.put, List.setIfInBounds_toArray, List.set_cons_zero, List.set_cons_succ, List.getElem_toArray, List.getElem_cons_succ, List.getElem_cons_zero]
          refine wpAnyH_ready (rs := [4]) (by kernel_rfl) (by simp) ?_
          refine AllReadyH.cons rfl (fun K hK => ?_) AllReadyH.nil
          go_simp
          refine Calls.mono (CC.out v3 u3 AL.out.fr AL.out.own) ?_
          rintro e u4 ⟨v4, he, hO4, hF4⟩
          subst he
          have AN : Hid (SayN W0 wx v4 (zs ++ (pre ++ ([32] ++ sayT kk nn d'))) u4) := ⟨AL.out.fr.trans hF4, by simpa using hO4, Nat.le_trans AL.out.size hF4.below.size⟩
          have hbx := hF4.three AL.out.box (by decide)
          refine hK.out _ _ (three hbx).1 (fun hH2 => ?_)
          clear AL hO4 hF4 CC hbx
          clear hK K hH
          have hH := hH2
          clear hH2
          simp only [Act.put, List.setIfInBounds_toArray, List.set_cons_zero, List.set_cons_succ, List.getElem_toArray, List.getElem_cons_succ, List.getElem_cons_zero]
          refine wpAnyH_take (i := 5) (v := ?_) rfl (by kernel_rfl) (by kernel_rfl) (by kernel_rfl) (fun _ _ _ h => h) (Or.inl ⟨by rfl, ?_⟩) hH ?_
          rotate_left
          · (intro v hS; go_simp; try with_reducible rfl)
          simp only [Act.put, List.setIfInBounds_toArray, List.set_cons_zero, List.set_cons_succ, List.getElem_toArray, List.getElem_cons_succ, List.getElem_cons_zero]
          refine wpAnyH_done (by kernel_rfl) ?_ _
          clear hH
          go_wp2
          go_roundw
          case rel => exact ⟨j + 1, R', pre ++ ([32] ++ sayT kk nn d'), by omega, by go_num, by omega, hRs', FX.out.2.2.1, FX.out.1, FX.out.2.1, FX.out.2.2.2, AN⟩
          case measure => simp [intOf]; omega
        · obtain rfl : j = l := by omega
          obtain rfl : R = .nil := F.nil_of_len (by omega)
          have EF : Hid (zs ++ pre ++ [41] = zs ++ sayT 4 n d) := by
            show _ = _
            have e := hP.out
            simp only [sayF, List.append_nil] at e
            rw [EH.out, e]; simp
          have hz9 : (zs ++ pre).length + 1 ≤ 1048576 := by rw [List.length_append]; omega
          clear hP hR hokR IH
          go_upto_region 18 with fail
          have ga := World.grownBy_alloc wr (.cells #[.int .u8 41] 5) none
          have AN : Hid (SayN W0 wx _ (zs ++ pre) (wr.alloc (.cells #[.int .u8 41] 5)) ∧ Reads (wr.alloc (.cells #[.int .u8 41] 5)) (some ⟨wr.heap.size, 0, none⟩) 1 [41]) := ⟨AL.out.grown ga, readsOneB wr 41 5⟩
          clear ga AL
          go_wp2_with (at_builtin; go_must (refine wpList_appB rfl _ _ 22 rfl W0.heap.size i0 (.int .u8 0) Tryd.underlying22 hi hz0 hz1 hz2 rfl _ (zs ++ pre).length (zs ++ pre) rfl AN.out.1.own (some ⟨wr.heap.size, 0, none⟩) 1 1 [41] rfl AN.out.2 (by simp) (by omega) AN.out.1.size ?_); intro v9 u9 o9 g9 n9)
          have FN := AN.out.1.app o9 rfl g9
          rw [EF.out] at FN
          have FF : Hid (SayN W0 wx v9 _ u9) := FN
          clear AN FN o9 g9 n9
          go_ret
          exact ⟨v9, rfl, FF.out.own, F7.out.trans FF.out.fr⟩
    by_cases h5 : k = 5
    · subst h5
      have E : shpV 5 = .iface 73 (.agg #[.string ⟨#[114, 101, 102]⟩, .int .i64 1, .bool true]) := rfl
      rw [E]
      have t1 := asVarFix (.agg #[.string ⟨#[114, 101, 102]⟩, .int .i64 1, .bool true])
      have t2 := asDataFix (.agg #[.string ⟨#[114, 101, 102]⟩, .int .i64 1, .bool true])
      have t3 := asFixFix (.agg #[.string ⟨#[114, 101, 102]⟩, .int .i64 1, .bool true])
      have EH : Hid (sayT 5 n d = [40] ++ [114, 101, 102] ++ (sayF d ++ [41])) := by show _ = _; simp [sayT, bodyS, headS, wordB]
      have HL : Hid (zs.length + ([40] ++ [114, 101, 102] : List Int).length + 12 * d.size + 1 ≤ 1000000) := by show _ ≤ _; simp only [List.length_append, List.length_cons, List.length_nil]; omega
      have hz9 : zs.length + 1 ≤ 1048576 := by omega
      have hz8 : (zs ++ [40]).length + ([114, 101, 102] : List Int).length ≤ 1048576 := by simp only [List.length_append, List.length_cons, List.length_nil]; omega
      have ga := World.grownBy_alloc w2 (.cells #[.string ⟨#[114, 101, 102]⟩, .int .i64 1, .bool true] 73) none
      have F7 : Hid (FrS W0.heap.size w (w2.alloc (.cells #[.string ⟨#[114, 101, 102]⟩, .int .i64 1, .bool true] 73))) := (AL.out.grown ga).fr
      have AN := AL.out.grown ga
      have AM : Hid (SayS W0 (w2.alloc (.cells #[.string ⟨#[114, 101, 102]⟩, .int .i64 1, .bool true] 73)) q _ n a l c v zs (w2.alloc (.cells #[.string ⟨#[114, 101, 102]⟩, .int .i64 1, .bool true] 73))) := ⟨FrS.refl _ _, AN.box, AN.own, AN.size⟩
      have bx := (three (heap_alloc_new w2 (.cells #[.string ⟨#[114, 101, 102]⟩, .int .i64 1, .bool true] 73))).1
      have BX : Hid ((w2.alloc (.cells #[.string ⟨#[114, 101, 102]⟩, .int .i64 1, .bool true] 73)).heap[w2.heap.size]? = some (.cells #[.string ⟨#[114, 101, 102]⟩, .int .i64 1, .bool true] 73)) := heap_alloc_new w2 _
      obtain ⟨b0, b1, b2⟩ := bx
      clear E ga AN AL x0 x1 x2
      go_upto_region 12 with fail
      generalize w2.alloc (.cells #[.string ⟨#[114, 101, 102]⟩, .int .i64 1, .bool true] 73) = wx at *
      generalize w2.heap.size = q7 at *
      have HT : Hid (∀ u, FrS W0.heap.size wx u → Tri q7 0 (.string ⟨#[114, 101, 102]⟩) (.int .i64 1) (.bool true) u) := fun u hu => (three (hu.three BX.out (by decide))).1
      have AD : Hid (SayS W0 wx q 5 n a l c v zs wx.drew) := AM.out.grown (grown_drew (World.grownBy.refl _ none))
      clear AM b0 b1 b2 BX
      generalize eqx : q = qx at *
      refine wp_region_held_drew (S := (fun u => Tri qx 0 (.int .i64 5) (.int .i64 n) (.slice a l c) u ∧ Tri q7 0 (.string ⟨#[114, 101, 102]⟩) (.int .i64 1) (.bool true) u)) (by kernel_rfl) ⟨AD.out.tri, HT.out _ AD.out.fr⟩ (fun hH => ?_)
      have AL := AD
      clear AD
      generalize wx.drew = v0 at *
      simp only [List.size_toArray, List.length_cons, List.length_nil, Nat.reduceAdd, Array.replicate, List.replicate]
      refine wpAnyH_take (i := 0) (v := ?_) rfl (by kernel_rfl) (by kernel_rfl) (by kernel_rfl) (fun _ _ _ h => h) (Or.inl ⟨by rfl, ?_⟩) hH ?_
      rotate_left
      · (intro v hS; obtain ⟨⟨s0, s1, s2⟩, ⟨r0, r1, r2⟩⟩ := hS; go_simp; try with_reducible rfl)
      simp only [Act.put, List.setIfInBounds_toArray, List.set_cons_zero, List.set_cons_succ, List.getElem_toArray, List.getElem_cons_succ, List.getElem_cons_zero]
      refine wpAnyH_take (i := 3) (v := ?_) rfl (by kernel_rfl) (by kernel_rfl) (by kernel_rfl) (fun _ _ _ h => h) (Or.inl ⟨by rfl, ?_⟩) hH ?_
      rotate_left
      · (intro v hS; obtain ⟨⟨s0, s1, s2⟩, ⟨r0, r1, r2⟩⟩ := hS; go_simp; try with_reducible rfl)
      simp only [Act.put, List.setIfInBounds_toArray, List.set_cons_zero, List.set_cons_succ, List.getElem_toArray, List.getElem_cons_succ, List.getElem_cons_zero]
      refine wpAnyH_take (i := 4) (v := ?_) rfl (by kernel_rfl) (by kernel_rfl) (by kernel_rfl) (fun _ _ _ h => h) (Or.inl ⟨by rfl, ?_⟩) hH ?_
      rotate_left
      · (intro v hS; obtain ⟨⟨s0, s1, s2⟩, ⟨r0, r1, r2⟩⟩ := hS; go_simp; try with_reducible rfl)
      simp only [Act.put, List.setIfInBounds_toArray, List.set_cons_zero, List.set_cons_succ, List.getElem_toArray, List.getElem_cons_succ, List.getElem_cons_zero]
      refine wpAnyH_ready (rs := [1]) (by kernel_rfl) (by simp) ?_
      refine AllReadyH.cons rfl (fun K hK => ?_) AllReadyH.nil
      go_simp
      have AN : Hid (SayS W0 wx qx _ _ _ _ _ _ _ (v0.alloc (.cells #[.int .u8 40] 5)) ∧ Reads (v0.alloc (.cells #[.int .u8 40] 5)) (some ⟨v0.heap.size, 0, none⟩) 1 [40]) := ⟨AL.out.grown (World.grownBy_alloc _ _ _), readsOneB v0 40 5⟩
      clear AL
      generalize v0.alloc (.cells #[.int .u8 40] 5) = v1 at *
      generalize v0.heap.size = p1 at *
      refine hK.out _ _ ⟨AN.out.1.tri, HT.out _ AN.out.1.fr⟩ (fun hH2 => ?_)
      clear hK K hH
      have hH := hH2
      clear hH2
      simp only [Act.put, List.setIfInBounds_toArray, List.set_cons_zero, List.set_cons_succ, List.getElem_toArray, List.getElem_cons_succ, List.getElem_cons_zero]
      refine wpAnyH_ready (rs := [2]) (by kernel_rfl) (by simp) ?_
      refine AllReadyH.cons rfl (fun K hK => ?_) AllReadyH.nil
      refine step_of rfl (wp_appB _ _ 22 rfl W0.heap.size i0 (.int .u8 0) Tryd.underlying22 hi hz0 hz1 hz2 rfl _ _ _ rfl AN.out.1.own (some ⟨p1, 0, none⟩) 1 1 [40] rfl AN.out.2 (by first | (simp; done) | assumption) hz9 AN.out.1.size ?_)
      intro v3 u3 o2 g2 n2
      have AL : Hid (SayS W0 wx qx _ _ _ _ _ v3 _ u3) := AN.out.1.app o2 AN.out.2.1 g2
      clear AN o2 g2 n2
      refine hK.out _ _ ⟨AL.out.tri, HT.out _ AL.out.fr⟩ (fun hH2 => ?_)
      clear hK K hH
      have hH := hH2
      clear hH2
      simp only [Act.put, List.setIfInBounds_toArray, List.set_cons_zero, List.set_cons_succ, List.getElem_toArray, List.getElem_cons_succ, List.getElem_cons_zero]
      refine wpAnyH_ready (rs := [5]) (by kernel_rfl) (by simp) ?_
      refine AllReadyH.cons rfl (fun K hK => ?_) AllReadyH.nil
      refine step_of rfl (wp_strB _ _ 22 9 rfl W0.heap.size i0 Tryd.underlying22 Tryd.underlying9 hi hz0 hz1 hz2 _ _ _ rfl AL.out.own _ [114, 101, 102] rfl rfl hz8 AL.out.size ?_)
      intro v5 u5 o2 g2
      have AN : Hid (SayS W0 wx qx _ _ _ _ _ v5 _ u5) := AL.out.app o2 rfl g2
      clear AL o2 g2
      have AL := AN
      clear AN
      refine hK.out _ _ ⟨AL.out.tri, HT.out _ AL.out.fr⟩ (fun hH2 => ?_)
      clear hK K hH
      have hH := hH2
      clear hH2
      simp only [Act.put, List.setIfInBounds_toArray, List.set_cons_zero, List.set_cons_succ, List.getElem_toArray, List.getElem_cons_succ, List.getElem_cons_zero]
      refine wpAnyH_take (i := 6) (v := ?_) rfl (by kernel_rfl) (by kernel_rfl) (by kernel_rfl) (fun _ _ _ h => h) (Or.inl ⟨by rfl, ?_⟩) hH ?_
      rotate_left
      · (intro v hS; go_simp; try with_reducible rfl)
      simp only [Act.put, List.setIfInBounds_toArray, List.set_cons_zero, List.set_cons_succ, List.getElem_toArray, List.getElem_cons_succ, List.getElem_cons_zero]
      refine wpAnyH_done (by kernel_rfl) ?_ _
      clear hH HT
      have AN : Hid (SayS W0 wx qx 5 n a l c v5 (zs ++ ([40] ++ [114, 101, 102])) u5) := AL.out.as (by simp)
      clear AL
      have AL := AN
      clear AN
      rcases HS.out.1.cases with ⟨rfl, rfl⟩ | ⟨b, o, rfl, hin, -, hpos⟩
      · obtain ⟨⟨y0, y1, y2⟩, -⟩ := three AL.out.box
        have EF : Hid (zs ++ ([40] ++ [114, 101, 102]) ++ [41] = zs ++ sayT 5 n .nil) := by show _ = _; rw [EH.out]; simp [sayF]
        have hz9 : (zs ++ ([40] ++ [114, 101, 102])).length + 1 ≤ 1048576 := by rw [List.length_append]; have := HL.out; omega
        have AN : Hid (SayN W0 wx v5 (zs ++ ([40] ++ [114, 101, 102])) u5) := ⟨AL.out.fr, AL.out.own, AL.out.size⟩
        clear IH HS HF AL
        have AL := AN
        clear AN
        go_wp2
        refine wp_loop_rounds 1 ?_
        rw [rounds_succ]
        go_upto_region 18 with fail
        clear y0 y1 y2
        have ga := World.grownBy_alloc u5 (.cells #[.int .u8 41] 5) none
        have AN : Hid (SayN W0 wx v5 (zs ++ ([40] ++ [114, 101, 102])) (u5.alloc (.cells #[.int .u8 41] 5)) ∧ Reads (u5.alloc (.cells #[.int .u8 41] 5)) (some ⟨u5.heap.size, 0, none⟩) 1 [41]) := ⟨AL.out.grown ga, readsOneB u5 41 5⟩
        clear ga AL
        go_wp2_with (at_builtin; go_must (refine wpList_appB rfl _ _ 22 rfl W0.heap.size i0 (.int .u8 0) Tryd.underlying22 hi hz0 hz1 hz2 rfl v5 (zs ++ ([40] ++ [114, 101, 102])).length (zs ++ ([40] ++ [114, 101, 102])) rfl AN.out.1.own (some ⟨u5.heap.size, 0, none⟩) 1 1 [41] rfl AN.out.2 (by simp) (by omega) AN.out.1.size ?_); intro v9 u9 o9 g9 n9)
        have FN := AN.out.1.app o9 rfl g9
        rw [EF.out] at FN
        have FF : Hid (SayN W0 wx v9 _ u9) := FN
        clear AN FN o9 g9 n9
        go_ret
        exact ⟨v9, rfl, FF.out.own, F7.out.trans FF.out.fr⟩
      have IN : Hid (InF W0 d b o) := hin
      have HB : Hid (Below W0.heap.size W0 wx) := HS.out.2.trans F7.out.below
      have hokd : okF d p = true := HF.out.2
      clear hin HS HF
      obtain ⟨⟨y0, y1, y2⟩, -⟩ := three AL.out.box
      have AN : Hid (SayN W0 wx v5 (zs ++ ([40] ++ [114, 101, 102])) u5) := ⟨AL.out.fr, AL.out.own, AL.out.size⟩
      clear AL
      go_wp2
      clear y0 y1 y2
      go_loopw [0, 49] (fun v i wr => ∃ (j : Nat) (R : F) (pre : List Int), j ≤ l ∧ i = .int .i64 j ∧ R.len + j = l ∧ R.size ≤ d.size ∧ zs.length + pre.length + 12 * R.size + 1 ≤ 1000000 ∧ Hid (InF W0 R b (o + j * 3)) ∧ Hid (okF R p = true) ∧ Hid (pre ++ sayF R = ([40] ++ [114, 101, 102]) ++ sayF d) ∧ Hid (SayN W0 wx v (zs ++ pre) wr)) (fun _ i _ => l - (intOf i).toNat)
      case atStart => exact ⟨0, d, ([40] ++ [114, 101, 102]), Nat.zero_le _, rfl, by omega, Nat.le_refl _, by have := HL.out; omega, by simpa using IN, hokd, rfl, AN⟩
      case round =>
        clear AN IN hokd
        obtain ⟨j, R, pre, hj, rfl, hRl, hRs, hus, hR, hokR, hP, AL⟩ := hrel
        by_cases hlt : j < l
        · have hlt' : (j : Int) < l := by omega
          obtain ⟨q1, hq1⟩ : ∃ q, R.len = q + 1 := ⟨R.len - 1, by omega⟩
          obtain ⟨kk, nn, d', R', rfl, hR'⟩ := F.cons_of_len hq1
          obtain ⟨a2, l2, c2, z0, z1, z2, hd2, hR2⟩ := hR.out.out
          have e3 : o + j * 3 + 3 = o + (j + 1) * 3 := by omega
          rw [e3] at hR2
          have hokc := hokR.out
          simp only [okF, Bool.and_eq_true, decide_eq_true_eq] at hokc
          have hds : d'.size < m := by simp only [F.size] at hRs hm; omega
          have hRs' : R'.size ≤ d.size := by simp only [F.size] at hRs; omega
          have hsz : (F.cons kk nn d' R').size = 1 + d'.size + R'.size := rfl
          rw [hsz] at hus
          have hbu := HB.out.trans AL.out.fr.below
          have t0 := (hbu.cell (p := ⟨b, o + j * 3, none⟩) (block_lt_of_cell z0)).trans z0
          have t1 := (hbu.cell (p := ⟨b, o + j * 3 + 1, none⟩) (block_lt_of_cell z1)).trans z1
          have t2 := (hbu.cell (p := ⟨b, o + j * 3 + 2, none⟩) (block_lt_of_cell z2)).trans z2
          have CC : Hid _ := fun v0 u0 (hu : FrS W0.heap.size wx u0) h1 => IH.out d' kk nn a2 l2 c2 v0 (zs ++ pre ++ [32]) u0 (p - 1) hds hd2 (HB.out.trans hu.below) h1 (by rw [← hd2.1]; exact hokc.1.1.2) hokc.1.2 (by rw [List.length_append, List.length_append, List.length_singleton]; omega)
          have hsl := sayT_len kk nn d' hokc.1.1.2 hokc.1.2
          have FX : Hid (InF W0 R' b (o + (j + 1) * 3) ∧ okF R' p = true ∧ zs.length + (pre ++ ([32] ++ sayT kk nn d')).length + 12 * R'.size + 1 ≤ 1000000 ∧ (pre ++ ([32] ++ sayT kk nn d')) ++ sayF R' = ([40] ++ [114, 101, 102]) ++ sayF d) := ⟨hR2, hokc.2, by simp only [List.length_append, List.length_singleton]; omega, by rw [← hP.out]; simp [sayF, sayT]⟩
          have hz9 : (zs ++ pre).length + 1 ≤ 1048576 := by rw [List.length_append]; omega
          clear hR hR2 hd2 hP hokc hokR z0 z1 z2 hsz hRs hsl hbu
          go_upto_region 16 with fail
          have ga := World.grownBy_alloc wr (.cells #[.int .i64 kk, .int .i64 nn, .slice a2 l2 c2] 25) none
          have AN := AL.out.grown ga
          have gd := grown_drew (World.grownBy.refl (wr.alloc (.cells #[.int .i64 kk, .int .i64 nn, .slice a2 l2 c2] 25)) none)
          have AM := AN.grown gd
          have AD : Hid (SayS W0 wx wr.heap.size kk nn a2 l2 c2 _ _ (wr.alloc (.cells #[.int .i64 kk, .int .i64 nn, .slice a2 l2 c2] 25)).drew) := ⟨AM.fr, (gd.block _ (by simp) (by simp)).trans (heap_alloc_new wr _), AM.own, AM.size⟩
          clear AL ga gd AN AM t0 t1 t2
          generalize (wr.alloc (.cells #[.int .i64 kk, .int .i64 nn, .slice a2 l2 c2] 25)) = wr1 at *
          generalize wr.heap.size = qx at *
          refine wp_region_held_drew (S := (fun u => Tri qx 0 (.int .i64 kk) (.int .i64 nn) (.slice a2 l2 c2) u)) (by kernel_rfl) AD.out.tri (fun hH => ?_)
          have AL := AD
          clear AD
          generalize wr1.drew = v0 at *
          simp only [List.size_toArray, List.length_cons, List.length_nil, Nat.reduceAdd, Array.replicate, List.replicate]
          refine wpAnyH_take (i := 0) (v := ?_) rfl (by kernel_rfl) (by kernel_rfl) (by kernel_rfl) (fun _ _ _ h => h) (Or.inl ⟨by rfl, ?_⟩) hH ?_
          rotate_left
          · (intro v hS; obtain ⟨s0, s1, s2⟩ := hS; go_simp; try with_reducible rfl)
          simp only [Act.put, List.setIfInBounds_toArray, List.set_cons_zero, List.set_cons_succ, List.getElem_toArray, List.getElem_cons_succ, List.getElem_cons_zero]
          refine wpAnyH_take (i := 3) (v := ?_) rfl (by kernel_rfl) (by kernel_rfl) (by kernel_rfl) (fun _ _ _ h => h) (Or.inl ⟨by rfl, ?_⟩) hH ?_
          rotate_left
          · (intro v hS; obtain ⟨s0, s1, s2⟩ := hS; go_simp; try with_reducible rfl)
          simp only [Act.put, List.setIfInBounds_toArray, List.set_cons_zero, List.set_cons_succ, List.getElem_toArray, List.getElem_cons_succ, List.getElem_cons_zero]
          refine wpAnyH_ready (rs := [1]) (by kernel_rfl) (by simp) ?_
          refine AllReadyH.cons rfl (fun K hK => ?_) AllReadyH.nil
          go_simp
          have AN : Hid (SayS W0 wx qx _ _ _ _ _ _ _ (v0.alloc (.cells #[.int .u8 32] 5)) ∧ Reads (v0.alloc (.cells #[.int .u8 32] 5)) (some ⟨v0.heap.size, 0, none⟩) 1 [32]) := ⟨AL.out.grown (World.grownBy_alloc _ _ _), readsOneB v0 32 5⟩
          clear AL
          generalize v0.alloc (.cells #[.int .u8 32] 5) = v1 at *
          generalize v0.heap.size = p1 at *
          refine hK.out _ _ AN.out.1.tri (fun hH2 => ?_)
          clear hK K hH
          have hH := hH2
          clear hH2
          simp only [Act.put, List.setIfInBounds_toArray, List.set_cons_zero, List.set_cons_succ, List.getElem_toArray, List.getElem_cons_succ, List.getElem_cons_zero]
          refine wpAnyH_ready (rs := [2]) (by kernel_rfl) (by simp) ?_
          refine AllReadyH.cons rfl (fun K hK => ?_) AllReadyH.nil
          refine step_of rfl (wp_appB _ _ 22 rfl W0.heap.size i0 (.int .u8 0) Tryd.underlying22 hi hz0 hz1 hz2 rfl _ _ _ rfl AN.out.1.own (some ⟨p1, 0, none⟩) 1 1 [32] rfl AN.out.2 (by first | (simp; done) | assumption) hz9 AN.out.1.size ?_)
          intro v3 u3 o2 g2 n2
          have AL : Hid (SayS W0 wx qx _ _ _ _ _ v3 _ u3) := AN.out.1.app o2 AN.out.2.1 g2
          clear AN o2 g2 n2
          refine hK.out _ _ AL.out.tri (fun hH2 => ?_)
          clear hK K hH
          have hH := hH2
          clear hH2
          simp only [Act.put, List.setIfInBounds_toArray, List.set_cons_zero, List.set_cons_succ, List.getElem_toArray, List.getElem_cons_succ, List.getElem_cons_zero]
          refine wpAnyH_ready (rs := [4]) (by kernel_rfl) (by simp) ?_
          refine AllReadyH.cons rfl (fun K hK => ?_) AllReadyH.nil
          go_simp
          refine Calls.mono (CC.out v3 u3 AL.out.fr AL.out.own) ?_
          rintro e u4 ⟨v4, he, hO4, hF4⟩
          subst he
          have AN : Hid (SayN W0 wx v4 (zs ++ (pre ++ ([32] ++ sayT kk nn d'))) u4) := ⟨AL.out.fr.trans hF4, by simpa using hO4, Nat.le_trans AL.out.size hF4.below.size⟩
          have hbx := hF4.three AL.out.box (by decide)
          refine hK.out _ _ (three hbx).1 (fun hH2 => ?_)
          clear AL hO4 hF4 CC hbx
          clear hK K hH
          have hH := hH2
          clear hH2
          simp only [Act.put, List.setIfInBounds_toArray, List.set_cons_zero, List.set_cons_succ, List.getElem_toArray, List.getElem_cons_succ, List.getElem_cons_zero]
          refine wpAnyH_take (i := 5) (v := ?_) rfl (by kernel_rfl) (by kernel_rfl) (by kernel_rfl) (fun _ _ _ h => h) (Or.inl ⟨by rfl, ?_⟩) hH ?_
          rotate_left
          · (intro v hS; go_simp; try with_reducible rfl)
          simp only [Act.put, List.setIfInBounds_toArray, List.set_cons_zero, List.set_cons_succ, List.getElem_toArray, List.getElem_cons_succ, List.getElem_cons_zero]
          refine wpAnyH_done (by kernel_rfl) ?_ _
          clear hH
          go_wp2
          go_roundw
          case rel => exact ⟨j + 1, R', pre ++ ([32] ++ sayT kk nn d'), by omega, by go_num, by omega, hRs', FX.out.2.2.1, FX.out.1, FX.out.2.1, FX.out.2.2.2, AN⟩
          case measure => simp [intOf]; omega
        · obtain rfl : j = l := by omega
          obtain rfl : R = .nil := F.nil_of_len (by omega)
          have EF : Hid (zs ++ pre ++ [41] = zs ++ sayT 5 n d) := by
            show _ = _
            have e := hP.out
            simp only [sayF, List.append_nil] at e
            rw [EH.out, e]; simp
          have hz9 : (zs ++ pre).length + 1 ≤ 1048576 := by rw [List.length_append]; omega
          clear hP hR hokR IH
          go_upto_region 18 with fail
          have ga := World.grownBy_alloc wr (.cells #[.int .u8 41] 5) none
          have AN : Hid (SayN W0 wx _ (zs ++ pre) (wr.alloc (.cells #[.int .u8 41] 5)) ∧ Reads (wr.alloc (.cells #[.int .u8 41] 5)) (some ⟨wr.heap.size, 0, none⟩) 1 [41]) := ⟨AL.out.grown ga, readsOneB wr 41 5⟩
          clear ga AL
          go_wp2_with (at_builtin; go_must (refine wpList_appB rfl _ _ 22 rfl W0.heap.size i0 (.int .u8 0) Tryd.underlying22 hi hz0 hz1 hz2 rfl _ (zs ++ pre).length (zs ++ pre) rfl AN.out.1.own (some ⟨wr.heap.size, 0, none⟩) 1 1 [41] rfl AN.out.2 (by simp) (by omega) AN.out.1.size ?_); intro v9 u9 o9 g9 n9)
          have FN := AN.out.1.app o9 rfl g9
          rw [EF.out] at FN
          have FF : Hid (SayN W0 wx v9 _ u9) := FN
          clear AN FN o9 g9 n9
          go_ret
          exact ⟨v9, rfl, FF.out.own, F7.out.trans FF.out.fr⟩
    by_cases h7 : k = 7
    · subst h7
      have E : shpV 7 = .iface 63 (.agg #[]) := rfl
      rw [E]
      have t1 := asVarVar
      have EF : Hid (zs ++ [39] ++ decB n.toNat = zs ++ sayT 7 n d) := by show _ = _; simp [sayT, bodyS, headS]
      have hz9 : zs.length + 1 ≤ 1048576 := by omega
      have hz8 : (zs ++ [39]).length + 21 ≤ 140737488355328 := by rw [List.length_append, List.length_singleton]; omega
      have ga := World.grownBy_alloc w2 (.cells #[] 63) none
      have F7 : Hid (FrS W0.heap.size w (w2.alloc (.cells #[] 63))) := (AL.out.grown ga).fr
      have AN := AL.out.grown ga
      have AM : Hid (SayS W0 (w2.alloc (.cells #[] 63)) q _ n a l c v zs (w2.alloc (.cells #[] 63))) := ⟨FrS.refl _ _, AN.box, AN.own, AN.size⟩
      clear IH HS HF E ga AN AL x0 x1 x2
      go_upto_region 4 with fail
      generalize w2.alloc (.cells #[] 63) = wx at *
      generalize w2.heap.size = q7 at *
      have HTB : Hid (∀ u, FrS W0.heap.size wx u → TabB W0.heap.size u) := fun u hu => HTA.out wx u F7.out hu
      have AD : Hid (SayS W0 wx q 7 n a l c v zs wx.drew) := AM.out.grown (grown_drew (World.grownBy.refl _ none))
      clear AM HTA
      generalize eqx : q = qx at *
      refine wp_region_held_drew (S := (fun u => Tri qx 0 (.int .i64 7) (.int .i64 n) (.slice a l c) u)) (by kernel_rfl) AD.out.tri (fun hH => ?_)
      have AL := AD
      clear AD
      generalize wx.drew = v0 at *
      simp only [List.size_toArray, List.length_cons, List.length_nil, Nat.reduceAdd, Array.replicate, List.replicate]
      refine wpAnyH_take (i := 0) (v := ?_) rfl (by kernel_rfl) (by kernel_rfl) (by kernel_rfl) (fun _ _ _ h => h) (Or.inl ⟨by rfl, ?_⟩) hH ?_
      rotate_left
      · (intro v hS; obtain ⟨s0, s1, s2⟩ := hS; go_simp; try with_reducible rfl)
      simp only [Act.put, List.setIfInBounds_toArray, List.set_cons_zero, List.set_cons_succ, List.getElem_toArray, List.getElem_cons_succ, List.getElem_cons_zero]
      refine wpAnyH_take (i := 3) (v := ?_) rfl (by kernel_rfl) (by kernel_rfl) (by kernel_rfl) (fun _ _ _ h => h) (Or.inl ⟨by rfl, ?_⟩) hH ?_
      rotate_left
      · (intro v hS; obtain ⟨s0, s1, s2⟩ := hS; go_simp; try with_reducible rfl)
      simp only [Act.put, List.setIfInBounds_toArray, List.set_cons_zero, List.set_cons_succ, List.getElem_toArray, List.getElem_cons_succ, List.getElem_cons_zero]
      refine wpAnyH_take (i := 4) (v := ?_) rfl (by kernel_rfl) (by kernel_rfl) (by kernel_rfl) (fun _ _ _ h => h) (Or.inl ⟨by rfl, ?_⟩) hH ?_
      rotate_left
      · (intro v hS; obtain ⟨s0, s1, s2⟩ := hS; go_simp; try with_reducible rfl)
      simp only [Act.put, List.setIfInBounds_toArray, List.set_cons_zero, List.set_cons_succ, List.getElem_toArray, List.getElem_cons_succ, List.getElem_cons_zero]
      refine wpAnyH_ready (rs := [1]) (by kernel_rfl) (by simp) ?_
      refine AllReadyH.cons rfl (fun K hK => ?_) AllReadyH.nil
      go_simp
      have AN : Hid (SayS W0 wx qx _ _ _ _ _ _ _ (v0.alloc (.cells #[.int .u8 39] 5)) ∧ Reads (v0.alloc (.cells #[.int .u8 39] 5)) (some ⟨v0.heap.size, 0, none⟩) 1 [39]) := ⟨AL.out.grown (World.grownBy_alloc _ _ _), readsOneB v0 39 5⟩
      clear AL
      generalize v0.alloc (.cells #[.int .u8 39] 5) = v1 at *
      generalize v0.heap.size = p1 at *
      refine hK.out _ _ AN.out.1.tri (fun hH2 => ?_)
      clear hK K hH
      have hH := hH2
      clear hH2
      simp only [Act.put, List.setIfInBounds_toArray, List.set_cons_zero, List.set_cons_succ, List.getElem_toArray, List.getElem_cons_succ, List.getElem_cons_zero]
      refine wpAnyH_ready (rs := [2]) (by kernel_rfl) (by simp) ?_
      refine AllReadyH.cons rfl (fun K hK => ?_) AllReadyH.nil
      refine step_of rfl (wp_appB _ _ 22 rfl W0.heap.size i0 (.int .u8 0) Tryd.underlying22 hi hz0 hz1 hz2 rfl _ _ _ rfl AN.out.1.own (some ⟨p1, 0, none⟩) 1 1 [39] rfl AN.out.2 (by first | (simp; done) | assumption) hz9 AN.out.1.size ?_)
      intro v3 u3 o2 g2 n2
      have AL : Hid (SayS W0 wx qx _ _ _ _ _ v3 _ u3) := AN.out.1.app o2 AN.out.2.1 g2
      clear AN o2 g2 n2
      refine hK.out _ _ AL.out.tri (fun hH2 => ?_)
      clear hK K hH
      have hH := hH2
      clear hH2
      simp only [Act.put, List.setIfInBounds_toArray, List.set_cons_zero, List.set_cons_succ, List.getElem_toArray, List.getElem_cons_succ, List.getElem_cons_zero]
      refine wpAnyH_ready (rs := [5]) (by kernel_rfl) (by simp) ?_
      refine AllReadyH.cons rfl (fun K hK => ?_) AllReadyH.nil
      go_simp
      refine Calls.mono (Tryd.strconv_AppendInt_10 W0.heap.size _ n (by omega) (by omega) v3 _ u3 AL.out.own AL.out.size hz8 (HTB.out _ AL.out.fr)) ?_
      rintro e u4 ⟨v4, he, hO4, hB4, hK4⟩
      subst he
      have AN : Hid (SayS W0 wx qx _ _ _ _ _ v4 _ u4) := AL.out.int hO4 hB4 hK4 hnn.1
      clear AL hO4 hB4 hK4
      have AL := AN
      clear AN
      refine hK.out _ _ AL.out.tri (fun hH2 => ?_)
      clear hK K hH
      have hH := hH2
      clear hH2
      simp only [Act.put, List.setIfInBounds_toArray, List.set_cons_zero, List.set_cons_succ, List.getElem_toArray, List.getElem_cons_succ, List.getElem_cons_zero]
      refine wpAnyH_take (i := 6) (v := ?_) rfl (by kernel_rfl) (by kernel_rfl) (by kernel_rfl) (fun _ _ _ h => h) (Or.inl ⟨by rfl, ?_⟩) hH ?_
      rotate_left
      · (intro v hS; go_simp; try with_reducible rfl)
      simp only [Act.put, List.setIfInBounds_toArray, List.set_cons_zero, List.set_cons_succ, List.getElem_toArray, List.getElem_cons_succ, List.getElem_cons_zero]
      refine wpAnyH_done (by kernel_rfl) ?_ _
      clear hH HTB
      have FN := AL.out.as EF.out
      have FF : Hid (SayS W0 wx qx 7 n a l c v4 (zs ++ sayT 7 n d) u4) := FN
      clear FN AL
      go_wp2
      go_ret
      exact ⟨v4, rfl, FF.out.own, F7.out.trans FF.out.fr⟩
    obtain rfl : k = 6 := by omega
    have E : shpV 6 = .iface 65 (.agg #[]) := rfl
    rw [E]
    have t1 := asVarData
    have t2 := asDataData
    have EH : Hid (sayT 6 n d = [40, 100, 97, 116, 97, 32] ++ decB n.toNat ++ (sayF d ++ [41])) := by show _ = _; simp [sayT, bodyS, headS]
    have hdl : (decB n.toNat).length ≤ 2 := decB_len 1 n.toNat (by have := hnn.2.2 rfl; omega)
    have HL : Hid (zs.length + ([40, 100, 97, 116, 97, 32] ++ decB n.toNat).length + 12 * d.size + 1 ≤ 1000000) := by show _ ≤ _; simp only [List.length_append, List.length_cons, List.length_nil]; omega
    have hz9 : zs.length + ([40, 100, 97, 116, 97, 32] : List Int).length ≤ 1048576 := by simp only [List.length_cons, List.length_nil]; omega
    have hz8 : (zs ++ [40, 100, 97, 116, 97, 32]).length + 21 ≤ 140737488355328 := by simp only [List.length_append, List.length_cons, List.length_nil]; omega
    have ga := World.grownBy_alloc w2 (.cells #[] 65) none
    have F7 : Hid (FrS W0.heap.size w (w2.alloc (.cells #[] 65))) := (AL.out.grown ga).fr
    have AN := AL.out.grown ga
    have AM : Hid (SayS W0 (w2.alloc (.cells #[] 65)) q _ n a l c v zs (w2.alloc (.cells #[] 65))) := ⟨FrS.refl _ _, AN.box, AN.own, AN.size⟩
    clear E ga AN AL x0 x1 x2
    go_upto_region 7 with fail
    generalize w2.alloc (.cells #[] 65) = wx at *
    generalize w2.heap.size = q7 at *
    have HTB : Hid (∀ u, FrS W0.heap.size wx u → TabB W0.heap.size u) := fun u hu => HTA.out wx u F7.out hu
    have AD : Hid (SayS W0 wx q 6 n a l c v zs wx.drew) := AM.out.grown (grown_drew (World.grownBy.refl _ none))
    clear AM HTA
    generalize eqx : q = qx at *
    refine wp_region_held_drew (S := (fun u => Tri qx 0 (.int .i64 6) (.int .i64 n) (.slice a l c) u)) (by kernel_rfl) AD.out.tri (fun hH => ?_)
    have AL := AD
    clear AD
    generalize wx.drew = v0 at *
    simp only [List.size_toArray, List.length_cons, List.length_nil, Nat.reduceAdd, Array.replicate, List.replicate]
    refine wpAnyH_take (i := 0) (v := ?_) rfl (by kernel_rfl) (by kernel_rfl) (by kernel_rfl) (fun _ _ _ h => h) (Or.inl ⟨by rfl, ?_⟩) hH ?_
    rotate_left
    · (intro v hS; obtain ⟨s0, s1, s2⟩ := hS; go_simp; try with_reducible rfl)
    simp only [Act.put, List.setIfInBounds_toArray, List.set_cons_zero, List.set_cons_succ, List.getElem_toArray, List.getElem_cons_succ, List.getElem_cons_zero]
    refine wpAnyH_take (i := 2) (v := ?_) rfl (by kernel_rfl) (by kernel_rfl) (by kernel_rfl) (fun _ _ _ h => h) (Or.inl ⟨by rfl, ?_⟩) hH ?_
    rotate_left
    · (intro v hS; obtain ⟨s0, s1, s2⟩ := hS; go_simp; try with_reducible rfl)
    simp only [Act.put, List.setIfInBounds_toArray, List.set_cons_zero, List.set_cons_succ, List.getElem_toArray, List.getElem_cons_succ, List.getElem_cons_zero]
    refine wpAnyH_take (i := 3) (v := ?_) rfl (by kernel_rfl) (by kernel_rfl) (by kernel_rfl) (fun _ _ _ h => h) (Or.inl ⟨by rfl, ?_⟩) hH ?_
    rotate_left
    · (intro v hS; obtain ⟨s0, s1, s2⟩ := hS; go_simp; try with_reducible rfl)
    simp only [Act.put, List.setIfInBounds_toArray, List.set_cons_zero, List.set_cons_succ, List.getElem_toArray, List.getElem_cons_succ, List.getElem_cons_zero]
    refine wpAnyH_ready (rs := [1]) (by kernel_rfl) (by simp) ?_
    refine AllReadyH.cons rfl (fun K hK => ?_) AllReadyH.nil
    refine step_of rfl (wp_strB _ _ 22 9 rfl W0.heap.size i0 Tryd.underlying22 Tryd.underlying9 hi hz0 hz1 hz2 _ _ _ rfl AL.out.own _ [40, 100, 97, 116, 97, 32] rfl rfl hz9 AL.out.size ?_)
    intro v3 u3 o2 g2
    have AN : Hid (SayS W0 wx qx _ _ _ _ _ v3 _ u3) := AL.out.app o2 rfl g2
    clear AL o2 g2
    have AL := AN
    clear AN
    refine hK.out _ _ AL.out.tri (fun hH2 => ?_)
    clear hK K hH
    have hH := hH2
    clear hH2
    simp only [Act.put, List.setIfInBounds_toArray, List.set_cons_zero, List.set_cons_succ, List.getElem_toArray, List.getElem_cons_succ, List.getElem_cons_zero]
    refine wpAnyH_ready (rs := [4]) (by kernel_rfl) (by simp) ?_
    refine AllReadyH.cons rfl (fun K hK => ?_) AllReadyH.nil
    go_simp
    refine Calls.mono (Tryd.strconv_AppendInt_10 W0.heap.size _ n (by omega) (by omega) v3 _ u3 AL.out.own AL.out.size hz8 (HTB.out _ AL.out.fr)) ?_
    rintro e u4 ⟨v4, he, hO4, hB4, hK4⟩
    subst he
    have AN : Hid (SayS W0 wx qx _ _ _ _ _ v4 _ u4) := AL.out.int hO4 hB4 hK4 hnn.1
    clear AL hO4 hB4 hK4
    have AL := AN
    clear AN
    refine hK.out _ _ AL.out.tri (fun hH2 => ?_)
    clear hK K hH
    have hH := hH2
    clear hH2
    simp only [Act.put, List.setIfInBounds_toArray, List.set_cons_zero, List.set_cons_succ, List.getElem_toArray, List.getElem_cons_succ, List.getElem_cons_zero]
    refine wpAnyH_take (i := 5) (v := ?_) rfl (by kernel_rfl) (by kernel_rfl) (by kernel_rfl) (fun _ _ _ h => h) (Or.inl ⟨by rfl, ?_⟩) hH ?_
    rotate_left
    · (intro v hS; go_simp; try with_reducible rfl)
    simp only [Act.put, List.setIfInBounds_toArray, List.set_cons_zero, List.set_cons_succ, List.getElem_toArray, List.getElem_cons_succ, List.getElem_cons_zero]
    refine wpAnyH_done (by kernel_rfl) ?_ _
    clear hH HTB
    have AN : Hid (SayS W0 wx qx 6 n a l c v4 (zs ++ ([40, 100, 97, 116, 97, 32] ++ decB n.toNat)) u4) := AL.out.as (by simp)
    clear AL
    have AL := AN
    clear AN
    generalize [40, 100, 97, 116, 97, 32] ++ decB n.toNat = hdB at *
    rcases HS.out.1.cases with ⟨rfl, rfl⟩ | ⟨b, o, rfl, hin, -, hpos⟩
    · obtain ⟨⟨y0, y1, y2⟩, -⟩ := three AL.out.box
      have EF : Hid (zs ++ hdB ++ [41] = zs ++ sayT 6 n .nil) := by show _ = _; rw [EH.out]; simp [sayF]
      have hz9 : (zs ++ hdB).length + 1 ≤ 1048576 := by rw [List.length_append]; have := HL.out; omega
      have AN : Hid (SayN W0 wx v4 (zs ++ hdB) u4) := ⟨AL.out.fr, AL.out.own, AL.out.size⟩
      clear IH HS HF AL
      have AL := AN
      clear AN
      go_wp2
      refine wp_loop_rounds 1 ?_
      rw [rounds_succ]
      go_upto_region 18 with fail
      clear y0 y1 y2
      have ga := World.grownBy_alloc u4 (.cells #[.int .u8 41] 5) none
      have AN : Hid (SayN W0 wx v4 (zs ++ hdB) (u4.alloc (.cells #[.int .u8 41] 5)) ∧ Reads (u4.alloc (.cells #[.int .u8 41] 5)) (some ⟨u4.heap.size, 0, none⟩) 1 [41]) := ⟨AL.out.grown ga, readsOneB u4 41 5⟩
      clear ga AL
      go_wp2_with (at_builtin; go_must (refine wpList_appB rfl _ _ 22 rfl W0.heap.size i0 (.int .u8 0) Tryd.underlying22 hi hz0 hz1 hz2 rfl v4 (zs ++ hdB).length (zs ++ hdB) rfl AN.out.1.own (some ⟨u4.heap.size, 0, none⟩) 1 1 [41] rfl AN.out.2 (by simp) (by omega) AN.out.1.size ?_); intro v9 u9 o9 g9 n9)
      have FN := AN.out.1.app o9 rfl g9
      rw [EF.out] at FN
      have FF : Hid (SayN W0 wx v9 _ u9) := FN
      clear AN FN o9 g9 n9
      go_ret
      exact ⟨v9, rfl, FF.out.own, F7.out.trans FF.out.fr⟩
    have IN : Hid (InF W0 d b o) := hin
    have HB : Hid (Below W0.heap.size W0 wx) := HS.out.2.trans F7.out.below
    have hokd : okF d p = true := HF.out.2
    clear hin HS HF
    obtain ⟨⟨y0, y1, y2⟩, -⟩ := three AL.out.box
    have AN : Hid (SayN W0 wx v4 (zs ++ hdB) u4) := ⟨AL.out.fr, AL.out.own, AL.out.size⟩
    clear AL
    go_wp2
    clear y0 y1 y2
    go_loopw [0, 49] (fun v i wr => ∃ (j : Nat) (R : F) (pre : List Int), j ≤ l ∧ i = .int .i64 j ∧ R.len + j = l ∧ R.size ≤ d.size ∧ zs.length + pre.length + 12 * R.size + 1 ≤ 1000000 ∧ Hid (InF W0 R b (o + j * 3)) ∧ Hid (okF R p = true) ∧ Hid (pre ++ sayF R = hdB ++ sayF d) ∧ Hid (SayN W0 wx v (zs ++ pre) wr)) (fun _ i _ => l - (intOf i).toNat)
    case atStart => exact ⟨0, d, hdB, Nat.zero_le _, rfl, by omega, Nat.le_refl _, by have := HL.out; omega, by simpa using IN, hokd, rfl, AN⟩
    case round =>
      clear AN IN hokd
      obtain ⟨j, R, pre, hj, rfl, hRl, hRs, hus, hR, hokR, hP, AL⟩ := hrel
      by_cases hlt : j < l
      · have hlt' : (j : Int) < l := by omega
        obtain ⟨q1, hq1⟩ : ∃ q, R.len = q + 1 := ⟨R.len - 1, by omega⟩
        obtain ⟨kk, nn, d', R', rfl, hR'⟩ := F.cons_of_len hq1
        obtain ⟨a2, l2, c2, z0, z1, z2, hd2, hR2⟩ := hR.out.out
        have e3 : o + j * 3 + 3 = o + (j + 1) * 3 := by omega
        rw [e3] at hR2
        have hokc := hokR.out
        simp only [okF, Bool.and_eq_true, decide_eq_true_eq] at hokc
        have hds : d'.size < m := by simp only [F.size] at hRs hm; omega
        have hRs' : R'.size ≤ d.size := by simp only [F.size] at hRs; omega
        have hsz : (F.cons kk nn d' R').size = 1 + d'.size + R'.size := rfl
        rw [hsz] at hus
        have hbu := HB.out.trans AL.out.fr.below
        have t0 := (hbu.cell (p := ⟨b, o + j * 3, none⟩) (block_lt_of_cell z0)).trans z0
        have t1 := (hbu.cell (p := ⟨b, o + j * 3 + 1, none⟩) (block_lt_of_cell z1)).trans z1
        have t2 := (hbu.cell (p := ⟨b, o + j * 3 + 2, none⟩) (block_lt_of_cell z2)).trans z2
        have CC : Hid _ := fun v0 u0 (hu : FrS W0.heap.size wx u0) h1 => IH.out d' kk nn a2 l2 c2 v0 (zs ++ pre ++ [32]) u0 (p - 1) hds hd2 (HB.out.trans hu.below) h1 (by rw [← hd2.1]; exact hokc.1.1.2) hokc.1.2 (by rw [List.length_append, List.length_append, List.length_singleton]; omega)
        have hsl := sayT_len kk nn d' hokc.1.1.2 hokc.1.2
        have FX : Hid (InF W0 R' b (o + (j + 1) * 3) ∧ okF R' p = true ∧ zs.length + (pre ++ ([32] ++ sayT kk nn d')).length + 12 * R'.size + 1 ≤ 1000000 ∧ (pre ++ ([32] ++ sayT kk nn d')) ++ sayF R' = hdB ++ sayF d) := ⟨hR2, hokc.2, by simp only [List.length_append, List.length_singleton]; omega, by rw [← hP.out]; simp [sayF, sayT]⟩
        have hz9 : (zs ++ pre).length + 1 ≤ 1048576 := by rw [List.length_append]; omega
        clear hR hR2 hd2 hP hokc hokR z0 z1 z2 hsz hRs hsl hbu
        go_upto_region 16 with fail
        have ga := World.grownBy_alloc wr (.cells #[.int .i64 kk, .int .i64 nn, .slice a2 l2 c2] 25) none
        have AN := AL.out.grown ga
        have gd := grown_drew (World.grownBy.refl (wr.alloc (.cells #[.int .i64 kk, .int .i64 nn, .slice a2 l2 c2] 25)) none)
        have AM := AN.grown gd
        have AD : Hid (SayS W0 wx wr.heap.size kk nn a2 l2 c2 _ _ (wr.alloc (.cells #[.int .i64 kk, .int .i64 nn, .slice a2 l2 c2] 25)).drew) := ⟨AM.fr, (gd.block _ (by simp) (by simp)).trans (heap_alloc_new wr _), AM.own, AM.size⟩
        clear AL ga gd AN AM t0 t1 t2
        generalize (wr.alloc (.cells #[.int .i64 kk, .int .i64 nn, .slice a2 l2 c2] 25)) = wr1 at *
        generalize wr.heap.size = qx at *
        refine wp_region_held_drew (S := (fun u => Tri qx 0 (.int .i64 kk) (.int .i64 nn) (.slice a2 l2 c2) u)) (by kernel_rfl) AD.out.tri (fun hH => ?_)
        have AL := AD
        clear AD
        generalize wr1.drew = v0 at *
        simp only [List.size_toArray, List.length_cons, List.length_nil, Nat.reduceAdd, Array.replicate, List.replicate]
        refine wpAnyH_take (i := 0) (v := ?_) rfl (by kernel_rfl) (by kernel_rfl) (by kernel_rfl) (fun _ _ _ h => h) (Or.inl ⟨by rfl, ?_⟩) hH ?_
        rotate_left
        · (intro v hS; obtain ⟨s0, s1, s2⟩ := hS; go_simp; try with_reducible rfl)
        simp only [Act.put, List.setIfInBounds_toArray, List.set_cons_zero, List.set_cons_succ, List.getElem_toArray, List.getElem_cons_succ, List.getElem_cons_zero]
        refine wpAnyH_take (i := 3) (v := ?_) rfl (by kernel_rfl) (by kernel_rfl) (by kernel_rfl) (fun _ _ _ h => h) (Or.inl ⟨by rfl, ?_⟩) hH ?_
        rotate_left
        · (intro v hS; obtain ⟨s0, s1, s2⟩ := hS; go_simp; try with_reducible rfl)
        simp only [Act.put, List.setIfInBounds_toArray, List.set_cons_zero, List.set_cons_succ, List.getElem_toArray, List.getElem_cons_succ, List.getElem_cons_zero]
        refine wpAnyH_ready (rs := [1]) (by kernel_rfl) (by simp) ?_
        refine AllReadyH.cons rfl (fun K hK => ?_) AllReadyH.nil
        go_simp
        have AN : Hid (SayS W0 wx qx _ _ _ _ _ _ _ (v0.alloc (.cells #[.int .u8 32] 5)) ∧ Reads (v0.alloc (.cells #[.int .u8 32] 5)) (some ⟨v0.heap.size, 0, none⟩) 1 [32]) := ⟨AL.out.grown (World.grownBy_alloc _ _ _), readsOneB v0 32 5⟩
        clear AL
        generalize v0.alloc (.cells #[.int .u8 32] 5) = v1 at *
        generalize v0.heap.size = p1 at *
        refine hK.out _ _ AN.out.1.tri (fun hH2 => ?_)
        clear hK K hH
        have hH := hH2
        clear hH2
        simp only [Act.put, List.setIfInBounds_toArray, List.set_cons_zero, List.set_cons_succ, List.getElem_toArray, List.getElem_cons_succ, List.getElem_cons_zero]
        refine wpAnyH_ready (rs := [2]) (by kernel_rfl) (by simp) ?_
        refine AllReadyH.cons rfl (fun K hK => ?_) AllReadyH.nil
        refine step_of rfl (wp_appB _ _ 22 rfl W0.heap.size i0 (.int .u8 0) Tryd.underlying22 hi hz0 hz1 hz2 rfl _ _ _ rfl AN.out.1.own (some ⟨p1, 0, none⟩) 1 1 [32] rfl AN.out.2 (by first | (simp; done) | assumption) hz9 AN.out.1.size ?_)
        intro v3 u3 o2 g2 n2
        have AL : Hid (SayS W0 wx qx _ _ _ _ _ v3 _ u3) := AN.out.1.app o2 AN.out.2.1 g2
        clear AN o2 g2 n2
        refine hK.out _ _ AL.out.tri (fun hH2 => ?_)
        clear hK K hH
        have hH := hH2
        clear hH2
        simp only [Act.put, List.setIfInBounds_toArray, List.set_cons_zero, List.set_cons_succ, List.getElem_toArray, List.getElem_cons_succ, List.getElem_cons_zero]
        refine wpAnyH_ready (rs := [4]) (by kernel_rfl) (by simp) ?_
        refine AllReadyH.cons rfl (fun K hK => ?_) AllReadyH.nil
        go_simp
        refine Calls.mono (CC.out v3 u3 AL.out.fr AL.out.own) ?_
        rintro e u4 ⟨v4, he, hO4, hF4⟩
        subst he
        have AN : Hid (SayN W0 wx v4 (zs ++ (pre ++ ([32] ++ sayT kk nn d'))) u4) := ⟨AL.out.fr.trans hF4, by simpa using hO4, Nat.le_trans AL.out.size hF4.below.size⟩
        have hbx := hF4.three AL.out.box (by decide)
        refine hK.out _ _ (three hbx).1 (fun hH2 => ?_)
        clear AL hO4 hF4 CC hbx
        clear hK K hH
        have hH := hH2
        clear hH2
        simp only [Act.put, List.setIfInBounds_toArray, List.set_cons_zero, List.set_cons_succ, List.getElem_toArray, List.getElem_cons_succ, List.getElem_cons_zero]
        refine wpAnyH_take (i := 5) (v := ?_) rfl (by kernel_rfl) (by kernel_rfl) (by kernel_rfl) (fun _ _ _ h => h) (Or.inl ⟨by rfl, ?_⟩) hH ?_
        rotate_left
        · (intro v hS; go_simp; try with_reducible rfl)
        simp only [Act.put, List.setIfInBounds_toArray, List.set_cons_zero, List.set_cons_succ, List.getElem_toArray, List.getElem_cons_succ, List.getElem_cons_zero]
        refine wpAnyH_done (by kernel_rfl) ?_ _
        clear hH
        go_wp2
        go_roundw
        case rel => exact ⟨j + 1, R', pre ++ ([32] ++ sayT kk nn d'), by omega, by go_num, by omega, hRs', FX.out.2.2.1, FX.out.1, FX.out.2.1, FX.out.2.2.2, AN⟩
        case measure => simp [intOf]; omega
      · obtain rfl : j = l := by omega
        obtain rfl : R = .nil := F.nil_of_len (by omega)
        have EF : Hid (zs ++ pre ++ [41] = zs ++ sayT 6 n d) := by
          show _ = _
          have e := hP.out
          simp only [sayF, List.append_nil] at e
          rw [EH.out, e]; simp
        have hz9 : (zs ++ pre).length + 1 ≤ 1048576 := by rw [List.length_append]; omega
        clear hP hR hokR IH
        go_upto_region 18 with fail
        have ga := World.grownBy_alloc wr (.cells #[.int .u8 41] 5) none
        have AN : Hid (SayN W0 wx _ (zs ++ pre) (wr.alloc (.cells #[.int .u8 41] 5)) ∧ Reads (wr.alloc (.cells #[.int .u8 41] 5)) (some ⟨wr.heap.size, 0, none⟩) 1 [41]) := ⟨AL.out.grown ga, readsOneB wr 41 5⟩
        clear ga AL
        go_wp2_with (at_builtin; go_must (refine wpList_appB rfl _ _ 22 rfl W0.heap.size i0 (.int .u8 0) Tryd.underlying22 hi hz0 hz1 hz2 rfl _ (zs ++ pre).length (zs ++ pre) rfl AN.out.1.own (some ⟨wr.heap.size, 0, none⟩) 1 1 [41] rfl AN.out.2 (by simp) (by omega) AN.out.1.size ?_); intro v9 u9 o9 g9 n9)
        have FN := AN.out.1.app o9 rfl g9
        rw [EF.out] at FN
        have FF : Hid (SayN W0 wx v9 _ u9) := FN
        clear AN FN o9 g9 n9
        go_ret
        exact ⟨v9, rfl, FF.out.own, F7.out.trans FF.out.fr⟩
end Go.Proofs.YtjchjdcaampghaaDoor.By
