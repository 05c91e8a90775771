/-
  A row of bytes that grows in place or anew, nothing else turning: the specification's way to write. Its decimals. No statement is proved here.
-/
import Derived.Test.YtpmndefmibnaeaaDoorVSm
import Derived.Deep.AppendSrc
import Derived.Deep.RegionHeld
namespace Go.Proofs.YtpmndefmibnaeaaDoor.By
open Go.RowKit
set_option linter.unusedVariables false
set_option linter.unusedSimpArgs false

def intB (n : Int) : List Int := ofB (Lib.itoa n)
theorem intB_pos {n : Int} (h : 0 ≤ n) : intB n = decB n.toNat := by unfold intB Lib.itoa decB; rw [if_neg (by omega)]
theorem intB_neg {n : Int} (h : n < 0) : intB n = 45 :: decB n.natAbs := by unfold intB Lib.itoa decB; rw [if_pos h]; rfl
theorem run_append_none0 {P : Program} {w : World} (base : Nat) (t ty e : TypeId) (i : TypeInfo) (size : Nat) (ht : P.underlying t = some (.slice e)) (hi : P.info? e = some i)
    (v : Value) (n : Nat) (xs : List Value) (hown : w.ownsRow base e size v n xs) (c : Nat) :
    (Builtin.append_ #[t, t] ty #[v, .slice none 0 c]).run P w = .ok v w := by
  rcases hown.2 with ⟨rfl, rfl⟩ | ⟨g, cap, cur, rfl, _, _, hnc, _⟩
  · simp [Builtin.append_, run_underlying ht, sizeOf, typeInfo, hi, Builtin.lenOf, Builtin.firstCells]
  · simp [Builtin.append_, run_underlying ht, sizeOf, typeInfo, hi, Builtin.lenOf, Builtin.firstCells, hnc, storeCells]
theorem run_appB4 {P : Program} {w : World} (t ty : TypeId) (B : Nat) (i : TypeInfo) (z : Value) (ht : P.underlying t = some (.slice 5)) (hi : P.info? 5 = some i) (hz : i.zero = some z)
    (hsize : i.size = 1) (hby : i.bytes = 1) (hzs : z.cells.size = 1) (v : Value) (n : Nat) (zs : List Int) (hown : w.ownsRow B 5 1 v n (vals zs)) (src : Option Addr) (m c : Nat) (ys : List Int)
    (hr : Reads w src m ys) (hm : n + m ≤ 4194304) (hB : B ≤ w.heap.size) :
    ∃ v' w', (Builtin.append_ #[t, t] ty #[v, .slice src m c]).run P w = .ok v' w' ∧ w'.ownsRow B 5 1 v' (n + m) (vals (zs ++ ys)) ∧ w.grownBy w' v.ownBlock ∧ (v' = .slice none 0 0 ↔ v = .slice none 0 0 ∧ m = 0) := by
  obtain ⟨hl, hr⟩ := hr
  cases src with
  | none =>
    obtain rfl : m = 0 := by
      rcases hr with h | ⟨_, _, h, _⟩
      · exact h
      · cases h
    obtain rfl : ys = [] := List.eq_nil_of_length_eq_zero (by omega)
    exact ⟨v, w, run_append_none0 (P := P) (w := w) B t ty 5 i 1 ht hi v n _ hown c, by simpa using hown, World.grownBy.refl _ _, by simp⟩
  | some ad =>
    have hnews : ∀ j u, (vals ys)[j]? = some u → w.cell? (ad.add j) = some u := by
      rcases hr with h | ⟨b, off, h, hc⟩
      · have : ys = [] := List.eq_nil_of_length_eq_zero (by omega)
        subst this
        intro j u hu; simp [vals] at hu
      · cases h; exact newsS hl hc
    obtain ⟨v', w', h1, h2, h3, h4⟩ := run_append_own (P := P) w B t ty 5 i z 1 1 ht hi hz hsize hby hzs (by decide) v n (vals zs) hown ad m c (vals ys) (by simp [vals, hl]) hnews (oneS ys) (by simp [maxLen]; omega) (by omega) hB
    exact ⟨v', w', h1, by simpa [vals] using h2, h3, h4⟩
/-- From w and the row v on: nothing but v's own block has turned; v1 is v's row grown, in v's own block or in a new one. -/
structure SayG (B : Nat) (w : World) (v v1 : Value) (zs : List Int) (u : World) : Prop where
  gr : w.grownBy u v.ownBlock
  own : u.ownsRow B 5 1 v1 zs.length (vals zs)
  blk : v1.ownBlock = v.ownBlock ∨ ∀ g, v1.ownBlock = some g → w.heap.size ≤ g
  low : ∀ g, v.ownBlock = some g → B ≤ g
  size : B ≤ u.heap.size
  size0 : B ≤ w.heap.size
theorem SayG.start {B : Nat} {w : World} {v : Value} {zs : List Int} (h : w.ownsRow B 5 1 v zs.length (vals zs)) (hB : B ≤ w.heap.size) : SayG B w v v zs w :=
  ⟨World.grownBy.refl _ _, h, .inl rfl, fun g hg => (h.lt g hg).1, hB, hB⟩
theorem SayG.trans {B : Nat} {w u u' : World} {v v1 v2 : Value} {zs ys : List Int} (h : SayG B w v v1 zs u) (k : SayG B u v1 v2 ys u') : SayG B w v v2 ys u' := by
  refine ⟨⟨k.gr.os.trans h.gr.os, k.gr.tape.trans h.gr.tape, k.gr.output.trans h.gr.output, Nat.le_trans h.gr.size k.gr.size, fun i hi hne => (k.gr.block i (Nat.lt_of_lt_of_le hi h.gr.size) ?_).trans (h.gr.block i hi hne)⟩, k.own, ?_, h.low, k.size, h.size0⟩
  · rcases h.blk with e | e
    · rw [e]; exact hne
    · intro e2
      have := e i e2.symm
      omega
  · rcases k.blk with e | e
    · rcases h.blk with e2 | e2
      · exact .inl (e.trans e2)
      · exact .inr fun g hg => e2 g (by rw [← e]; exact hg)
    · exact .inr fun g hg => Nat.le_trans h.gr.size (e g hg)
theorem SayG.grown {B : Nat} {w u u' : World} {v v1 : Value} {zs : List Int} (h : SayG B w v v1 zs u) (g : u.grownBy u' none) : SayG B w v v1 zs u' :=
  h.trans ⟨grown_none g _, h.own.kept g (Classical.em _), .inl rfl, fun b hb => (h.own.lt b hb).1, Nat.le_trans h.size g.size, h.size⟩
theorem SayG.as {B : Nat} {w u : World} {v v1 : Value} {zs ys : List Int} (h : SayG B w v v1 zs u) (e : zs = ys) : SayG B w v v1 ys u := e ▸ h
theorem SayG.below {B : Nat} {w u : World} {v v1 : Value} {zs : List Int} (h : SayG B w v v1 zs u) : Below B w u := (Below.refl B w).grown h.gr h.size0 h.low
/-- Behind the new start, what had stood before. -/
theorem SayG.re {B : Nat} {w u : World} {v v1 : Value} {zs : List Int} (h : SayG B w v v1 zs u) : SayG B u v1 v1 zs u := SayG.start h.own h.size

theorem app_blk {P : Program} {w : World} (t tx ty : TypeId) (B : Nat) (i : TypeInfo) (z : Value) (ht : P.underlying t = some (.slice 5)) (hi : P.info? 5 = some i) (hz : i.zero = some z)
    (hsize : i.size = 1) (hby : i.bytes = 1) (v : Value) (n : Nat) (xs : List Value) (hown : w.ownsRow B 5 1 v n xs) (x : Value) (m : Nat) (news : List Value) (hs : Src P i.size tx x m news w) (hm : n + m ≤ 4194304)
    (v' : Value) (w' : World) (hr : (Builtin.append_ #[t, tx] ty #[v, x]).run P w = .ok v' w') (hnil : v' = .slice none 0 0 ↔ v = .slice none 0 0 ∧ m = 0) : v'.ownBlock = v.ownBlock ∨ v'.ownBlock = some w.heap.size := by
  rcases hown.2 with ⟨rfl, rfl⟩ | ⟨g, cap, cur, rfl, hbg, hg, hnc, hcm, hcs, htake⟩
  · by_cases h0 : m = 0
    · rw [hnil.2 ⟨rfl, h0⟩]; exact .inl rfl
    · have r := run_append_grow_src (P := P) w t tx ty 5 i z ht hi hz none 0 0 [] (run_firstCells_none w.drew i.size 0 0 0) x m news hs (by omega) (by omega) (growslice_fits (by omega) (by rw [hby]; omega))
      rw [r] at hr
      injection hr with e1 e2
      rw [← e1]; exact .inr rfl
  · by_cases hroom : n + m ≤ cap
    · have r := run_append_room_src (P := P) w t tx ty 5 i ht hi g 0 n cap x m news hs hroom (fun j hj => by
        have hl := hs.newsLen
        rw [hsize, Nat.mul_one] at hl
        have hlt : 0 + n * i.size + j < cur.size := by rw [hsize, hcs]; omega
        rw [cell_of_row w g _ _ _ (0, 0) hg, Array.getElem?_eq_getElem hlt]; rfl) (fun j hj => frozen_of_row w g _ _ _ hg)
      rw [r] at hr
      injection hr with e1 e2
      rw [← e1]; exact .inl rfl
    · have hold : (Builtin.firstCells i.size n (.slice (some ⟨g, 0, none⟩) n cap)).run P w.drew = .ok xs.toArray w.drew := by
        refine run_firstCells_some w.drew i.size n ⟨g, 0, none⟩ n cap _ (by rw [hsize]; exact hown.1) (fun j u hu => ?_)
        rw [Go.WideShapes.add_plain, Nat.zero_add]
        have hj : j < n := by have h1 := (List.getElem?_eq_some_iff.1 hu).1; have h2 := hown.1; omega
        have e : w.drew.cell? ⟨g, j, none⟩ = cur[j]? := cell_of_row w g j _ _ (0, 0) hg
        rw [e, ← Array.getElem?_toList, ← hu, ← htake, List.getElem?_take_of_lt (by omega)]
      have r := run_append_grow_src (P := P) w t tx ty 5 i z ht hi hz (some ⟨g, 0, none⟩) n cap xs hold x m news hs (by omega) (by omega) (growslice_fits (by omega) (by rw [hby]; omega))
      rw [r] at hr
      injection hr with e1 e2
      rw [← e1]; exact .inr rfl
theorem say_of {B n m : Nat} {w w' : World} {v v' : Value} {zs ys : List Int} (hown : w.ownsRow B 5 1 v n (vals zs)) (hl : zs.length = n) (hy : ys.length = m) (hB : B ≤ w.heap.size) (ho : w'.ownsRow B 5 1 v' (n + m) (vals (zs ++ ys))) (hg : w.grownBy w' v.ownBlock) (hb : v'.ownBlock = v.ownBlock ∨ v'.ownBlock = some w.heap.size) : SayG B w v v' (zs ++ ys) w' := by
  refine ⟨hg, by rw [List.length_append, hl, hy]; exact ho, ?_, fun g h => (hown.lt g h).1, Nat.le_trans hB hg.size, hB⟩
  rcases hb with e | e
  · exact .inl e
  · exact .inr fun g h => by rw [e] at h; injection h with h; omega
theorem run_appG {P : Program} {w : World} (t ty : TypeId) (B : Nat) (i : TypeInfo) (z : Value) (ht : P.underlying t = some (.slice 5)) (hi : P.info? 5 = some i) (hz : i.zero = some z)
    (hsize : i.size = 1) (hby : i.bytes = 1) (hzs : z.cells.size = 1) (v : Value) (zs : List Int) (hown : w.ownsRow B 5 1 v zs.length (vals zs)) (src : Option Addr) (m c : Nat) (ys : List Int)
    (hr : Reads w src m ys) (hm : zs.length + m ≤ 4194304) (hB : B ≤ w.heap.size) :
    ∃ v' w', (Builtin.append_ #[t, t] ty #[v, .slice src m c]).run P w = .ok v' w' ∧ SayG B w v v' (zs ++ ys) w' := by
  obtain ⟨v', w', h1, h2, h3, h4⟩ := run_appB4 (P := P) (w := w) t ty B i z ht hi hz hsize hby hzs v zs.length zs hown src m c ys hr hm hB
  refine ⟨v', w', h1, say_of hown rfl hr.1 hB h2 h3 ?_⟩
  have sr : ∃ news, Src P i.size t (.slice src m c) m news w := by
    obtain ⟨hl, hr⟩ := hr
    cases src with
    | none =>
      obtain rfl : m = 0 := by
        rcases hr with h | ⟨_, _, h, _⟩
        · exact h
        · cases h
      exact ⟨[], Src.ofNil w ht c⟩
    | some ad =>
      refine ⟨vals ys, Src.ofSlice w ht ad m c _ (by rw [hsize]; simp [vals, hl]) ?_ (oneS ys)⟩
      rcases hr with h | ⟨b, off, h, hc⟩
      · have : ys = [] := List.eq_nil_of_length_eq_zero (by omega)
        subst this
        intro j u hu; simp [vals] at hu
      · cases h; exact newsS hl hc
  obtain ⟨news, sr⟩ := sr
  exact app_blk t t ty B i z ht hi hz hsize hby v zs.length _ hown _ m news sr hm v' w' h1 h4
theorem wp_appG {P : Program} {w : World} {o : Oper} {ac : Act} {K : Act → World → Prop} {Q : Exit → Act → World → Prop}
    (s x : Operand) (t : TypeId) (ho : o.op = .call { callee := .builtin .append, args := #[s, x], argTypes := #[t, t] })
    (B : Nat) (i : TypeInfo) (z : Value) (ht : P.underlying t = some (.slice 5)) (hi : P.info? 5 = some i) (hz : i.zero = some z) (hsize : i.size = 1) (hby : i.bytes = 1) (hzs : z.cells.size = 1)
    (v : Value) (zs : List Int) (hs : ac.eval s = v) (hown : w.ownsRow B 5 1 v zs.length (vals zs)) (src : Option Addr) (m c : Nat) (ys : List Int) (hx : ac.eval x = .slice src m c) (hr : Reads w src m ys) (hm : zs.length + m ≤ 4194304) (hB : B ≤ w.heap.size)
    (H : ∀ v' w', SayG B w v v' (zs ++ ys) w' → K (ac.put o.dst v') w') :
    Oper.wp P o ac w K Q := by
  obtain ⟨v', w', hr', h2⟩ := run_appG (P := P) (w := w) t o.type B i z ht hi hz hsize hby hzs v zs hown src m c ys hr hm hB
  unfold Oper.wp execOp
  simp only [ho, resolve, invoke, builtin, Sem.run_bind, Sem.run_pure, Result.andThen_ok, List.map_toArray, List.map_cons, List.map_nil, hs, hx, hr']
  exact H v' w' h2
theorem wpList_appG {P : Program} {w : World} {ops : Array Oper} {rest : List Oper} {o : Oper} {ac : Act} {Q : Exit → Act → World → Prop}
    (hg : o.guard = none) (s x : Operand) (t : TypeId) (ho : o.op = .call { callee := .builtin .append, args := #[s, x], argTypes := #[t, t] })
    (B : Nat) (i : TypeInfo) (z : Value) (ht : P.underlying t = some (.slice 5)) (hi : P.info? 5 = some i) (hz : i.zero = some z) (hsize : i.size = 1) (hby : i.bytes = 1) (hzs : z.cells.size = 1)
    (v : Value) (zs : List Int) (hs : ac.eval s = v) (hown : w.ownsRow B 5 1 v zs.length (vals zs)) (src : Option Addr) (m c : Nat) (ys : List Int) (hx : ac.eval x = .slice src m c) (hr : Reads w src m ys) (hm : zs.length + m ≤ 4194304) (hB : B ≤ w.heap.size)
    (H : ∀ v' w', SayG B w v v' (zs ++ ys) w' → wpList P ops Q rest (ac.put o.dst v') w') :
    wpList P ops Q (o :: rest) ac w :=
  wpList_plain hg fun K hK => wp_appG s x t ho B i z ht hi hz hsize hby hzs v zs hs hown src m c ys hx hr hm hB fun v' w' h => hK _ _ (H v' w' h)
theorem wp_strG {P : Program} {w : World} {o : Oper} {ac : Act} {K : Act → World → Prop} {Q : Exit → Act → World → Prop}
    (s x : Operand) (t u : TypeId) (ho : o.op = .call { callee := .builtin .append, args := #[s, x], argTypes := #[t, u] })
    (B : Nat) (i : TypeInfo) (ht : P.underlying t = some (.slice 5)) (hu : P.underlying u = some .string) (hi : P.info? 5 = some i) (hz : i.zero = some (.int .u8 0)) (hsize : i.size = 1) (hby : i.bytes = 1)
    (v : Value) (zs : List Int) (hs : ac.eval s = v) (hown : w.ownsRow B 5 1 v zs.length (vals zs)) (st : ByteArray) (ys : List Int) (hx : ac.eval x = .string st) (hy : ofB st.data.toList = ys) (hm : zs.length + ys.length ≤ 4194304) (hB : B ≤ w.heap.size)
    (H : ∀ v' w', SayG B w v v' (zs ++ ys) w' → K (ac.put o.dst v') w') :
    Oper.wp P o ac w K Q := by
  have hsz : st.size = ys.length := by rw [← hy, ofB_len, Array.length_toList]; rfl
  obtain ⟨v', w', hr', h2, h3, h4⟩ := Lib.run_append_own_string (P := P) w B t u o.type 5 i ht hu hi hz hsize hby v zs.length (vals zs) hown st (by simp only [maxLen]; omega) (by omega) hB
  have hb := app_blk t u o.type B i _ ht hi hz hsize hby v zs.length _ hown (.string st) st.size (byteCells st) (by rw [hsize]; exact Src.ofString w hu st) (by omega) v' w' hr' h4
  unfold Oper.wp execOp
  simp only [ho, resolve, invoke, builtin, Sem.run_bind, Sem.run_pure, Result.andThen_ok, List.map_toArray, List.map_cons, List.map_nil, hs, hx, hr']
  refine H v' w' (say_of hown rfl rfl hB ?_ h3 hb)
  rw [strCells_vals, hy, hsz] at h2
  simpa [vals] using h2
theorem wpList_strG {P : Program} {w : World} {ops : Array Oper} {rest : List Oper} {o : Oper} {ac : Act} {Q : Exit → Act → World → Prop}
    (hg : o.guard = none) (s x : Operand) (t u : TypeId) (ho : o.op = .call { callee := .builtin .append, args := #[s, x], argTypes := #[t, u] })
    (B : Nat) (i : TypeInfo) (ht : P.underlying t = some (.slice 5)) (hu : P.underlying u = some .string) (hi : P.info? 5 = some i) (hz : i.zero = some (.int .u8 0)) (hsize : i.size = 1) (hby : i.bytes = 1)
    (v : Value) (zs : List Int) (hs : ac.eval s = v) (hown : w.ownsRow B 5 1 v zs.length (vals zs)) (st : ByteArray) (ys : List Int) (hx : ac.eval x = .string st) (hy : ofB st.data.toList = ys) (hm : zs.length + ys.length ≤ 4194304) (hB : B ≤ w.heap.size)
    (H : ∀ v' w', SayG B w v v' (zs ++ ys) w' → wpList P ops Q rest (ac.put o.dst v') w') :
    wpList P ops Q (o :: rest) ac w :=
  wpList_plain hg fun K hK => wp_strG s x t u ho B i ht hu hi hz hsize hby v zs hs hown st ys hx hy hm hB fun v' w' h => hK _ _ (H v' w' h)

set_option maxRecDepth 8000 in
set_option maxHeartbeats 1000000 in
theorem l3tensW (m : Nat) : ∀ (n : Nat) (w : World), n < m → n < 100000000000000000000 →
    Calls Tryd.prog 39 #[.int .u64 n] w fun e u => ∃ a c, e = .returned (.slice a (decB n).length c) ∧ w.grownBy u none ∧ OwS w.heap.size u a (decB n).length c (decB n) := by
  induction m with
  | zero => intro n w h; exact absurd h (Nat.not_lt_zero _)
  | succ m ih =>
    intro n w hm hn
    by_cases h10 : n < 10
    · have E : Hid (decB n = [48 + (n : Int)]) := decB_small h10
      have h10' : (n : Int) < 10 := by omega
      have hw : IntKind.u8.wrap (48 + (n : Int)) = 48 + (n : Int) := IntWalk.u8_in _ (by omega)
      go_enter Tryd.func39, Tryd.ntmps39
      have FF : Hid (OwS w.heap.size (w.alloc (.cells #[.int .u8 (48 + (n : Int))] 5)) (some ⟨w.heap.size, 0, none⟩) 1 1 [48 + (n : Int)]) := ⟨⟨rfl, .inr ⟨_, _, _, rfl, Nat.le_refl _, heap_alloc_new w _, by omega, by decide, rfl, rfl⟩⟩, rfl⟩
      go_wp2
      go_ret
      exact ⟨_, _, by rw [E.out]; rfl, World.grownBy_alloc _ _ _, by rw [E.out]; exact FF.out⟩
    · have E : Hid (decB n = decB (n / 10) ++ [48 + ((n % 10 : Nat) : Int)]) := decB_great h10
      have h10' : ¬ (n : Int) < 10 := by omega
      have e0 : ((n / 10 : Nat) : Int) = (n : Int) / 10 := by omega
      have e1 : ((n % 10 : Nat) : Int) = (n : Int) % 10 := by omega
      have CC := ih (n / 10) w (by omega) (by omega)
      rw [e0] at CC
      have CH : Hid _ := CC
      rw [e1] at E
      obtain ⟨i0, hi, hz0, hz1, hz2⟩ := info_parts infoS
      have hlen : (decB (n / 10)).length ≤ 20 := decB_len 19 _ (by omega)
      have hw : IntKind.u8.wrap (48 + (n : Int) % 10) = 48 + (n : Int) % 10 := IntWalk.u8_in _ (by omega)
      generalize decB (n / 10) = ds at *
      clear CC e0 e1 ih
      go_enter Tryd.func39, Tryd.ntmps39
      go_wp2_with fail
      refine Calls.mono CH.out ?_
      rintro e u ⟨a, c, rfl, hg, hO⟩
      have ga := World.grownBy_alloc u (.cells #[.int .u8 (48 + (n : Int) % 10)] 5) none
      have S2 : Hid ((u.alloc (.cells #[.int .u8 (48 + (n : Int) % 10)] 5)).ownsRow w.heap.size 5 1 (.slice a ds.length c) ds.length (vals ds) ∧ Reads (u.alloc (.cells #[.int .u8 (48 + (n : Int) % 10)] 5)) (some ⟨u.heap.size, 0, none⟩) 1 [48 + (n : Int) % 10] ∧ w.grownBy (u.alloc (.cells #[.int .u8 (48 + (n : Int) % 10)] 5)) none) := ⟨hO.1.alloc _, readsOneB u _ 5, grown_trans hg ga⟩
      clear hg hO CH ga
      simp only []
      go_wp2_with (at_builtin; go_must (refine wpList_appB rfl _ _ 22 rfl w.heap.size i0 (.int .u8 0) Tryd.underlying22 hi hz0 hz1 hz2 rfl (.slice a ds.length c) ds.length ds rfl S2.out.1 (some ⟨u.heap.size, 0, none⟩) 1 1 [48 + (n : Int) % 10] rfl S2.out.2.1 (by simp) (by omega) S2.out.2.2.size ?_); intro v3 w3 o3 g3 n3)
      have o4 : w3.ownsRow w.heap.size 5 1 v3 (decB n).length (vals (decB n)) := by rw [E.out, List.length_append]; exact o3
      obtain ⟨-, a', c', hv, hO⟩ := ownsS o4
      subst hv
      have FF : Hid (w.grownBy w3 none ∧ OwS w.heap.size w3 a' (decB n).length c' (decB n)) := ⟨⟨g3.os.trans S2.out.2.2.os, g3.tape.trans S2.out.2.2.tape, g3.output.trans S2.out.2.2.output, Nat.le_trans S2.out.2.2.size g3.size, fun i hi _ => (g3.block i (Nat.lt_of_lt_of_le hi S2.out.2.2.size) (fun e => by have := (S2.out.1.lt i e.symm).1; omega)).trans (S2.out.2.2.block i hi (by simp))⟩, hO⟩
      clear o3 o4 g3 n3 hO S2
      go_ret
      exact ⟨a', c', rfl, FF.out⟩

set_option maxRecDepth 8000 in
set_option maxHeartbeats 2000000 in
theorem l3digitsW (n : Int) (w : World) (h0 : -9223372036854775808 ≤ n) (h1 : n ≤ 9223372036854775807) :
    Calls Tryd.prog 30 #[.int .i64 n] w fun e u => ∃ a c, e = .returned (.slice a (intB n).length c) ∧ w.grownBy u none ∧ OwS w.heap.size u a (intB n).length c (intB n) := by
  by_cases hneg : n < 0
  · obtain ⟨m, rfl⟩ : ∃ m : Nat, n = -(m : Int) := ⟨n.natAbs, by omega⟩
    have hm1 : 1 ≤ m := by omega
    have E : Hid (intB (-(m : Int)) = [45] ++ decB m) := by
      show _ = _
      rw [intB_neg hneg, show (-(m : Int)).natAbs = m by omega]; rfl
    have hwr : IntKind.u64.wrap (-IntKind.u64.wrap (-(m : Int))) = (m : Int) := by rw [IntKind.wrap_u64, IntKind.wrap_u64]; omega
    have ga := World.grownBy_alloc w (.cells #[.int .u8 45] 5) none
    have HO : Hid ((w.alloc (.cells #[.int .u8 45] 5)).ownsRow w.heap.size 5 1 (.slice (some ⟨w.heap.size, 0, none⟩) 1 1) 1 (vals [45]) ∧ w.grownBy (w.alloc (.cells #[.int .u8 45] 5)) none) := ⟨⟨rfl, .inr ⟨_, _, _, rfl, Nat.le_refl _, heap_alloc_new w _, by omega, by decide, rfl, rfl⟩⟩, ga⟩
    have CC : Hid _ := l3tensW (m + 1) m (w.alloc (.cells #[.int .u8 45] 5)) (by omega) (by omega)
    have hdl := decB_len 19 m (by omega)
    obtain ⟨i0, hi, hz0, hz1, hz2⟩ := info_parts infoS
    clear ga
    generalize decB m = ds at *
    go_enter Tryd.func30, Tryd.ntmps30
    go_wp2_with fail
    refine Calls.mono CC.out ?_
    rintro e u ⟨a, c, rfl, hg, hO⟩
    have S2 : Hid (u.ownsRow w.heap.size 5 1 (.slice (some ⟨w.heap.size, 0, none⟩) 1 1) 1 (vals [45]) ∧ Reads u a ds.length ds ∧ w.grownBy u none) := ⟨HO.out.1.kept hg (Classical.em _), hO.reads, grown_trans HO.out.2 hg⟩
    have hac : a = none → c = 0 := hO.nilCap
    clear hg hO CC HO
    simp only []
    go_wp2_with (at_builtin; go_must (refine wpList_appB rfl _ _ 22 rfl w.heap.size i0 (.int .u8 0) Tryd.underlying22 hi hz0 hz1 hz2 rfl (.slice (some ⟨w.heap.size, 0, none⟩) 1 1) 1 [45] rfl S2.out.1 a ds.length c ds rfl S2.out.2.1 hac (by omega) S2.out.2.2.size ?_); intro v3 w3 o3 g3 n3)
    have o4 : w3.ownsRow w.heap.size 5 1 v3 (intB (-(m : Int))).length (vals (intB (-(m : Int)))) := by rw [E.out, List.length_append]; exact o3
    obtain ⟨-, a', c', hv, hO⟩ := ownsS o4
    subst hv
    have FF : Hid (w.grownBy w3 none ∧ OwS w.heap.size w3 a' (intB (-(m : Int))).length c' (intB (-(m : Int)))) := ⟨⟨g3.os.trans S2.out.2.2.os, g3.tape.trans S2.out.2.2.tape, g3.output.trans S2.out.2.2.output, Nat.le_trans S2.out.2.2.size g3.size, fun i hi _ => (g3.block i (Nat.lt_of_lt_of_le hi S2.out.2.2.size) (fun e => by have := (S2.out.1.lt i e.symm).1; omega)).trans (S2.out.2.2.block i hi (by simp))⟩, hO⟩
    clear o3 o4 g3 n3 hO S2
    go_ret
    exact ⟨a', c', rfl, FF.out⟩
  · obtain ⟨m, rfl⟩ : ∃ m : Nat, n = (m : Int) := ⟨n.toNat, by omega⟩
    have E : Hid (intB (m : Int) = decB m) := by show _ = _; rw [intB_pos (by omega), Int.toNat_natCast]
    have CC : Hid _ := l3tensW (m + 1) m w (by omega) (by omega)
    clear h0
    go_enter Tryd.func30, Tryd.ntmps30
    go_wp2_with fail
    refine Calls.mono CC.out ?_
    rintro e u ⟨a, c, rfl, hg, hO⟩
    have FF : Hid (w.grownBy u none ∧ OwS w.heap.size u a (decB m).length c (decB m)) := ⟨hg, hO⟩
    clear hg hO CC
    simp only []
    go_wp2
    go_ret
    exact ⟨a, c, by rw [E.out]; rfl, by rw [E.out]; exact FF.out⟩
theorem intB_len20 {n : Int} (h0 : -9223372036854775808 ≤ n) (h1 : n ≤ 9223372036854775807) : (intB n).length ≤ 20 := by
  by_cases h : n < 0
  · rw [intB_neg h]; have := decB_len 18 n.natAbs (by omega); simp only [List.length_cons]; omega
  · rw [intB_pos (by omega)]; have := decB_len 18 n.toNat (by omega); omega
end Go.Proofs.YtpmndefmibnaeaaDoor.By
