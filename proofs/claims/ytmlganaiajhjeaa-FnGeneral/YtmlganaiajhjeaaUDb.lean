/-
  Drawn binds that are bent, by their contract. No statement is proved here.
-/
import Derived.Test.YtmlganaiajhjeaaUPdAlso
import Derived.Test.YtmlganaiajhjeaaTDb
namespace Go.Proofs.Ytmlganaiajhjeaa.By
open Go.RowKit
set_option linter.unusedVariables false
set_option linter.unusedSimpArgs false

/-- Binds are handed back, one more at most, their trees in blocks of trees. -/
def BtA (w0 wa : World) (g : Nat) (a : Option Addr) (n cap : Nat) (L : B) (e : Ending) (u : World) : Prop :=
  ∃ (f : B) (av : Option Addr) (cv : Nat), e = .returned (.slice av f.len cv) ∧ Kept w0 wa u g a n cap ∧ SlBD (hideB u wa.heap.size) 25 44 av f.len f ∧ (f = L ∨ ∃ v k m d, f = L.app (.cons v k m d .nil))
/-- What stands on the way. -/
structure BtS (w0 wa : World) (g : Nat) (a : Option Addr) (n cap : Nat) (av : Option Addr) (cv : Nat) (L : B) (bs : List Nat) (u : World) : Prop where
  kept : Kept w0 wa u g a n cap
  own : SlOB u 25 44 av L.len cv L bs
theorem BtS.cur {w0 wa u u' : World} {g n cap : Nat} {a av : Option Addr} {cv : Nat} {L : B} {bs : List Nat} (h : BtS w0 wa g a n cap av cv L bs u) (hk : Kept w0 u u' g a n cap) (hb : ∀ x ∈ bs, g < x) : BtS w0 wa g a n cap av cv L bs u' :=
  ⟨h.kept.trans hk, h.own.kept hk.2 (fun x hx e => by have h1 : x = g := (by injection e); have := hb x hx; omega)⟩
theorem BtS.none {w0 wa u u' : World} {g n cap : Nat} {a av : Option Addr} {cv : Nat} {L : B} {bs : List Nat} (h : BtS w0 wa g a n cap av cv L bs u) (hk : u.grownBy u' Option.none) : BtS w0 wa g a n cap av cv L bs u' :=
  ⟨h.kept.none hk, h.own.old hk⟩
theorem BtS.done {w0 wa u u' : World} {g n cap : Nat} {a av av' : Option Addr} {cv cv' : Nat} {L : B} {bs : List Nat} {v k m : Int} {d : F} (h : BtS w0 wa g a n cap av cv L bs u) (h1 : SlBD (hideB u' wa.heap.size) 25 44 av' (L.len + 1) (L.app (.cons v k m d .nil))) (h2 : Tn u u' bs) (hb : ∀ x ∈ bs, wa.heap.size ≤ x ∧ g < x) (h0 : w0.heap.size ≤ wa.heap.size) : BtA w0 wa g a n cap L (.returned (.slice av' (L.len + 1) cv')) u' := by
  have e : (L.app (.cons v k m d .nil)).len = L.len + 1 := by rw [B.app_len]; rfl
  refine ⟨L.app (.cons v k m d .nil), av', cv', by rw [e], h.kept.tnD h2 hb h0, by rw [e]; exact h1, .inr ⟨v, k, m, d, rfl⟩⟩






set_option maxRecDepth 8000 in
set_option maxHeartbeats 4000000 in
theorem l4bentT (w0 : World) (g : Nat) (a : Option Addr) (n cap : Nat) (zs : List Int) (hr : Reads w0 a n zs) (hz : Byt zs) (hn : n ≤ 9223372036854775807) (wa : World) (h0 : w0.heap.size ≤ wa.heap.size) (hga : g < wa.heap.size) (L : B) (av : Option Addr) (cv : Nat) (bs : List Nat) (w : World) (hK : Kept w0 wa w g a n cap) (hL : NewB wa w 25 44 av L.len cv L bs) (hna : cv = 0 → av = none) (hlen : L.len ≤ 1000) :
    Calls Try.prog 49 #[.pointer (some ⟨g, 0, none⟩), .slice av L.len cv] w fun e u => BtA w0 wa g a n cap L e u := by
  have CO : Hid (∀ (v : World) (m : Int), Cur w0 v g a n cap → 0 < m → m ≤ 100 → Calls Try.prog 52 #[.pointer (some ⟨g, 0, none⟩), .int .i64 m] v fun e w' => ∃ x : Bool, e = .returned (.bool x) ∧ Kept w0 v w' g a n cap) := fun v m hv h1 h2 => onceT w0 v g a n cap zs hr hz hn hv m h1 (by omega)
  have CB : Hid (∀ (v : World) (m : Int), Cur w0 v g a n cap → 0 < m → m ≤ 100 → Calls Try.prog 39 #[.pointer (some ⟨g, 0, none⟩), .int .i64 m] v fun e w' => ∃ x, e = .returned (.int .i64 x) ∧ 0 ≤ x ∧ x < m ∧ Kept w0 v w' g a n cap) := fun v m hv h1 h2 => belowT w0 v g a n cap zs hr hz hn hv m h1 (by omega)
  have CP : Hid (∀ (v : World), Cur w0 v g a n cap → ∀ (l : List Int), 0 < l.length → l.length ≤ 1000 → (∀ x ∈ l, I64 x) → Calls Try.prog 67 #[.pointer (some ⟨g, 0, none⟩), .slice (some ⟨v.heap.size, 0, none⟩) l.length l.length] (v.alloc (.cells (l.map (Value.int .i64)).toArray 3)) fun e w' => ∃ x, e = .returned (.int .i64 x) ∧ I64 x ∧ Kept w0 v w' g a n cap) := fun v hv l h1 h2 h3 => pickNew w0 v g a n cap zs hr hz hn hv l h1 h2 h3
  have CA : Hid (∀ (v : World), Cur w0 v g a n cap → Calls Try.prog 38 #[.pointer (some ⟨g, 0, none⟩)] v fun e u => DrA w0 v g a n cap e u) := fun v hv => l3anyT w0 g a n cap zs hr hz hn v hv
  have HB : Hid (∀ x ∈ bs, wa.heap.size ≤ x ∧ g < x) := fun x hx => ⟨hL.2.2 x hx, Nat.lt_of_lt_of_le hga (hL.2.2 x hx)⟩
  have HN : Hid (cv = 0 → av = none) := hna
  have S0 : Hid (BtS w0 wa g a n cap av cv L bs w) := ⟨hK, hL.1⟩
  clear hr hz hn hL hK hna
  go_enter Try.func49, Try.ntmps49
  go_wp2_with fail
  refine Calls.mono (CO.out w 9 S0.out.kept.1 (by omega) (by omega)) ?_
  rintro e u1 ⟨x, he, hk1⟩
  subst he
  have ST : Hid (BtS w0 wa g a n cap av cv L bs u1) := S0.out.cur hk1 (fun x hx => (HB.out x hx).2)
  clear S0 hk1
  simp only []
  cases x with
  | false =>
    go_wp2
    go_ret
    exact ⟨L, av, cv, rfl, ST.out.kept, ST.out.own.hide (fun x hx => (HB.out x hx).1), .inl rfl⟩
  | true =>
    go_wp2_with fail
    refine Calls.mono (CB.out u1 4 ST.out.kept.1 (by omega) (by omega)) ?_
    rintro e u2 ⟨y, he, hy0, hy1, hk2⟩
    subst he
    have SX := ST.out.cur hk2 (fun x hx => (HB.out x hx).2)
    clear ST hk2
    have ST : Hid (BtS w0 wa g a n cap av cv L bs u2) := SX
    clear SX
    simp only []
    rcases (show y = 0 ∨ y = 1 ∨ y = 2 ∨ y = 3 by omega) with rfl | rfl | rfl | rfl
    · go_wp2_with fail
      refine Calls.mono (CP.out u2 ST.out.kept.1 [-1, 100000, 99999, 0] (by decide) (by decide) (by unfold I64; decide)) ?_
      rintro e u3 ⟨v, he, hv, hk3⟩
      subst he
      have SX := ST.out.cur hk3 (fun x hx => (HB.out x hx).2)
      clear ST hk3
      have ST : Hid (BtS w0 wa g a n cap av cv L bs u3) := SX
      clear SX
      simp only []
      go_wp2_with fail
      refine Calls.mono (CA.out u3 ST.out.kept.1) ?_
      rintro e u4 ⟨k, m, f, a4, l4, c4, bs4, he, hk4, hn4⟩
      subst he
      have SX := ST.out.cur hk4 (fun x hx => (HB.out x hx).2)
      have hd4 : Hid (SlD (hideB u4 wa.heap.size) 25 a4 l4 f) := hn4.1.hide (fun x hx => Nat.le_trans ST.out.kept.2.size (hn4.2.2 x hx))
      clear ST hk4 hn4
      have ST : Hid (BtS w0 wa g a n cap av cv L bs u4) := SX
      clear SX
      have NW : Hid _ := news4 (q := u4.heap.size) (u := u4.alloc (.cells #[.int .i64 v, .int .i64 k, .int .i64 m, .slice a4 l4 c4] 44)) (v0 := .int .i64 v) (v1 := .int .i64 k) (v2 := .int .i64 m) (v3 := .slice a4 l4 c4) (four (heap_alloc_new u4 _)).1
      have ga := World.grownBy_alloc u4 (.cells #[.int .i64 v, .int .i64 k, .int .i64 m, .slice a4 l4 c4] 44) none
      have SD : Hid _ := SlD.hideKept hd4.out (fun i _ hi => ga.block i hi (by simp))
      have SU : Hid (BtS w0 wa g a n cap av cv L bs (u4.alloc (.cells #[.int .i64 v, .int .i64 k, .int .i64 m, .slice a4 l4 c4] 44))) := ST.out.none ga
      have SZ : Hid (wa.heap.size ≤ (u4.alloc (.cells #[.int .i64 v, .int .i64 k, .int .i64 m, .slice a4 l4 c4] 44)).heap.size) := SU.out.kept.2.size
      obtain ⟨i0, hi, hz0, hz1, hz2⟩ := info_parts infoB
      clear ga ST
      (try simp only [])
      go_wp2_with (at_builtin; go_must (refine wpList_pushD rfl _ _ 37 rfl 44 25 i0 _ Try.underlying37 hi hz0 hz1 hz2 rfl (by decide) av L.len cv L bs rfl SU.out.own HN.out (by omega) ⟨u4.heap.size, 0, none⟩ rfl v k m a4 l4 c4 NW.out f wa.heap.size SZ.out (fun x hx => (HB.out x hx).1) SD.out ?_); intro a5 c5 u5 h1 h2)
      (try simp only [Exit.inBlock, Exit.then])
      go_ret
      exact BtS.done SU.out h1 h2 HB.out h0
    · have ga := World.grownBy_alloc u2 (.cells #[.int .i64 7, .int .i64 1, .slice none 0 0] 25) none
      have ba := heap_alloc_new u2 (.cells #[.int .i64 7, .int .i64 1, .slice none 0 0] 25)
      have hsz := ST.out.kept.2.size
      have hd4 : Hid (SlD (hideB (u2.alloc (.cells #[.int .i64 7, .int .i64 1, .slice none 0 0] 25)) wa.heap.size) 25 (some ⟨u2.heap.size, 0, none⟩) 1 (.cons 7 1 .nil .nil)) := by
        obtain ⟨⟨c0, c1, c2⟩, -⟩ := three ba
        exact ⟨rfl, by omega, .inr ⟨_, _, rfl, ⟨_, (hide_heap hsz).trans ba⟩, ⟨⟨none, 0, 0, (hide_cell hsz).trans c0, (hide_cell hsz).trans c1, (hide_cell hsz).trans c2, rfl, by omega, .inl rfl⟩, trivial⟩⟩⟩
      have SX := ST.out.none ga
      have hs2 : (u2.alloc (.cells #[.int .i64 7, .int .i64 1, .slice none 0 0] 25)).heap.size = u2.heap.size + 1 := by simp
      clear ST ga ba hsz
      have ST : Hid (BtS w0 wa g a n cap av cv L bs (u2.alloc (.cells #[.int .i64 7, .int .i64 1, .slice none 0 0] 25))) := SX
      clear SX
      have NW : Hid _ := news4 (q := (u2.alloc (.cells #[.int .i64 7, .int .i64 1, .slice none 0 0] 25)).heap.size) (u := (u2.alloc (.cells #[.int .i64 7, .int .i64 1, .slice none 0 0] 25)).alloc (.cells #[.int .i64 1, .int .i64 5, .int .i64 0, .slice (some ⟨u2.heap.size, 0, none⟩) 1 1] 44)) (v0 := .int .i64 1) (v1 := .int .i64 5) (v2 := .int .i64 0) (v3 := .slice (some ⟨u2.heap.size, 0, none⟩) 1 1) (four (heap_alloc_new (u2.alloc (.cells #[.int .i64 7, .int .i64 1, .slice none 0 0] 25)) _)).1
      have ga := World.grownBy_alloc (u2.alloc (.cells #[.int .i64 7, .int .i64 1, .slice none 0 0] 25)) (.cells #[.int .i64 1, .int .i64 5, .int .i64 0, .slice (some ⟨u2.heap.size, 0, none⟩) 1 1] 44) none
      have SD : Hid _ := SlD.hideKept hd4.out (fun i _ hi => ga.block i hi (by simp))
      have SU : Hid (BtS w0 wa g a n cap av cv L bs ((u2.alloc (.cells #[.int .i64 7, .int .i64 1, .slice none 0 0] 25)).alloc (.cells #[.int .i64 1, .int .i64 5, .int .i64 0, .slice (some ⟨u2.heap.size, 0, none⟩) 1 1] 44))) := ST.out.none ga
      have SZ : Hid (wa.heap.size ≤ ((u2.alloc (.cells #[.int .i64 7, .int .i64 1, .slice none 0 0] 25)).alloc (.cells #[.int .i64 1, .int .i64 5, .int .i64 0, .slice (some ⟨u2.heap.size, 0, none⟩) 1 1] 44)).heap.size) := SU.out.kept.2.size
      obtain ⟨i0, hi, hz0, hz1, hz2⟩ := info_parts infoB
      clear ga ST
      (try simp only [])
      rw [hs2] at NW
      clear hs2
      go_wp2_with (at_builtin; go_must (refine wpList_pushD rfl _ _ 37 rfl 44 25 i0 _ Try.underlying37 hi hz0 hz1 hz2 rfl (by decide) av L.len cv L bs rfl SU.out.own HN.out (by omega) ⟨u2.heap.size + 1, 0, none⟩ rfl 1 5 0 (some ⟨u2.heap.size, 0, none⟩) 1 1 NW.out (.cons 7 1 .nil .nil) wa.heap.size SZ.out (fun x hx => (HB.out x hx).1) SD.out ?_); intro a5 c5 u5 h1 h2)
      (try simp only [Exit.inBlock, Exit.then])
      go_ret
      exact BtS.done SU.out h1 h2 HB.out h0
    · rcases hLc : L with _ | ⟨v, k, m, d, r⟩
      · have hl0 : L.len = 0 := by rw [hLc]; rfl
        rw [← hLc]
        have HZ : Hid (L.len = 0) := hl0
        clear hLc
        go_wp2_with fail
        refine Calls.mono (CB.out u2 5 ST.out.kept.1 (by omega) (by omega)) ?_
        rintro e u9 ⟨z, he, hz0', hz1', hk9⟩
        subst he
        have SX := ST.out.cur hk9 (fun x hx => (HB.out x hx).2)
        clear ST hk9
        have ST : Hid (BtS w0 wa g a n cap av cv L bs u9) := SX
        clear SX
        have NW : Hid _ := news4 (q := u9.heap.size) (u := u9.alloc (.cells #[.int .i64 6, .int .i64 7, .int .i64 z, .slice none 0 0] 44)) (v0 := .int .i64 6) (v1 := .int .i64 7) (v2 := .int .i64 z) (v3 := .slice none 0 0) (four (heap_alloc_new u9 _)).1
        have ga := World.grownBy_alloc u9 (.cells #[.int .i64 6, .int .i64 7, .int .i64 z, .slice none 0 0] 44) none
        have SD : Hid _ := SlD.hideKept (show SlD (hideB u9 wa.heap.size) 25 none 0 .nil from ⟨rfl, by omega, .inl rfl⟩) (fun i _ hi => ga.block i hi (by simp))
        have SU : Hid (BtS w0 wa g a n cap av cv L bs (u9.alloc (.cells #[.int .i64 6, .int .i64 7, .int .i64 z, .slice none 0 0] 44))) := ST.out.none ga
        have SZ : Hid (wa.heap.size ≤ (u9.alloc (.cells #[.int .i64 6, .int .i64 7, .int .i64 z, .slice none 0 0] 44)).heap.size) := SU.out.kept.2.size
        obtain ⟨i0, hi, hz0, hz1, hz2⟩ := info_parts infoB
        clear ga ST
        (try simp only [])
        go_wp2_with (at_builtin; go_must (refine wpList_pushD rfl _ _ 37 rfl 44 25 i0 _ Try.underlying37 hi hz0 hz1 hz2 rfl (by decide) av L.len cv L bs rfl SU.out.own HN.out (by omega) ⟨u9.heap.size, 0, none⟩ rfl 6 7 z none 0 0 NW.out .nil wa.heap.size SZ.out (fun x hx => (HB.out x hx).1) SD.out ?_); intro a5 c5 u5 h1 h2)
        (try simp only [Exit.inBlock, Exit.then])
        go_ret
        have hh := BtS.done (av' := a5) (cv' := c5) SU.out h1 h2 HB.out h0
        rw [HZ.out] at hh
        exact hh
      · have hl0 : 0 < L.len := by rw [hLc]; simp [B.len]
        obtain ⟨a4, l4, c4, b4, hav, hq, hd4⟩ : ∃ a4 l4 c4 b4, av = some ⟨b4, 0, none⟩ ∧ Qua b4 0 (.int .i64 v) (.int .i64 k) (.int .i64 m) (.slice a4 l4 c4) u2 ∧ SlD (hideB u2 wa.heap.size) 25 a4 l4 d := by
          obtain ⟨g1, g2, g3, g4⟩ := ST.out.own
          rcases g4 with ⟨g4, -⟩ | ⟨b4, bs', hp, e1, e2, hb, ho⟩
          · omega
          · have hb4 : wa.heap.size ≤ b4 := (HB.out b4 (by rw [e2]; simp)).1
            have ht := (ho.move (w' := hideB u2 wa.heap.size) (b' := b4) (off' := 0) (fun j hj => hide_cell hb4) (fun x hx => hide_heap (HB.out x (by rw [e2]; exact List.mem_cons_of_mem _ hx)).1)).typed
            rw [hLc] at ht
            obtain ⟨⟨a4, l4, c4, ⟨t0, t1, t2, t3⟩, hd⟩, -⟩ := ht
            exact ⟨a4, l4, c4, b4, e1, ⟨(hide_cell hb4).symm.trans t0, (hide_cell hb4).symm.trans t1, (hide_cell hb4).symm.trans t2, (hide_cell hb4).symm.trans t3⟩, hd⟩
        rw [← hLc]
        have hl1 : (L.len : Int) > 0 := by omega
        have hl2 : decide ((L.len : Int) > 0) = true := by simp; omega
        have HD : Hid _ := hd4
        obtain ⟨q0, q1, q2, q3⟩ := hq
        simp only [Nat.zero_add] at q0 q1 q2 q3
        subst hav
        clear hLc hd4
        have NW : Hid _ := news4 (q := u2.heap.size) (u := u2.alloc (.cells #[.int .i64 v, .int .i64 k, .int .i64 m, .slice a4 l4 c4] 44)) (v0 := .int .i64 v) (v1 := .int .i64 k) (v2 := .int .i64 m) (v3 := .slice a4 l4 c4) (four (heap_alloc_new u2 _)).1
        have ga := World.grownBy_alloc u2 (.cells #[.int .i64 v, .int .i64 k, .int .i64 m, .slice a4 l4 c4] 44) none
        have SD : Hid _ := SlD.hideKept HD.out (fun i _ hi => ga.block i hi (by simp))
        have SU : Hid (BtS w0 wa g a n cap (some ⟨b4, 0, none⟩) cv L bs (u2.alloc (.cells #[.int .i64 v, .int .i64 k, .int .i64 m, .slice a4 l4 c4] 44))) := ST.out.none ga
        have SZ : Hid (wa.heap.size ≤ (u2.alloc (.cells #[.int .i64 v, .int .i64 k, .int .i64 m, .slice a4 l4 c4] 44)).heap.size) := SU.out.kept.2.size
        obtain ⟨i0, hi, hz0, hz1, hz2⟩ := info_parts infoB
        clear ga ST
        go_wp2_with (at_builtin; go_must (refine wpList_pushD rfl _ _ 37 rfl 44 25 i0 _ Try.underlying37 hi hz0 hz1 hz2 rfl (by decide) (some ⟨b4, 0, none⟩) L.len cv L bs rfl SU.out.own HN.out (by omega) ⟨u2.heap.size, 0, none⟩ rfl v k m a4 l4 c4 NW.out d wa.heap.size SZ.out (fun x hx => (HB.out x hx).1) SD.out ?_); intro a5 c5 u5 h1 h2)
        (try simp only [Exit.inBlock, Exit.then])
        go_ret
        exact BtS.done SU.out h1 h2 HB.out h0
    · go_wp2_with fail
      refine Calls.mono (CB.out u2 5 ST.out.kept.1 (by omega) (by omega)) ?_
      rintro e u9 ⟨z, he, hz0', hz1', hk9⟩
      subst he
      have SX := ST.out.cur hk9 (fun x hx => (HB.out x hx).2)
      clear ST hk9
      have ST : Hid (BtS w0 wa g a n cap av cv L bs u9) := SX
      clear SX
      have NW : Hid _ := news4 (q := u9.heap.size) (u := u9.alloc (.cells #[.int .i64 6, .int .i64 7, .int .i64 z, .slice none 0 0] 44)) (v0 := .int .i64 6) (v1 := .int .i64 7) (v2 := .int .i64 z) (v3 := .slice none 0 0) (four (heap_alloc_new u9 _)).1
      have ga := World.grownBy_alloc u9 (.cells #[.int .i64 6, .int .i64 7, .int .i64 z, .slice none 0 0] 44) none
      have SD : Hid _ := SlD.hideKept (show SlD (hideB u9 wa.heap.size) 25 none 0 .nil from ⟨rfl, by omega, .inl rfl⟩) (fun i _ hi => ga.block i hi (by simp))
      have SU : Hid (BtS w0 wa g a n cap av cv L bs (u9.alloc (.cells #[.int .i64 6, .int .i64 7, .int .i64 z, .slice none 0 0] 44))) := ST.out.none ga
      have SZ : Hid (wa.heap.size ≤ (u9.alloc (.cells #[.int .i64 6, .int .i64 7, .int .i64 z, .slice none 0 0] 44)).heap.size) := SU.out.kept.2.size
      obtain ⟨i0, hi, hz0, hz1, hz2⟩ := info_parts infoB
      clear ga ST
      (try simp only [])
      go_wp2_with (at_builtin; go_must (refine wpList_pushD rfl _ _ 37 rfl 44 25 i0 _ Try.underlying37 hi hz0 hz1 hz2 rfl (by decide) av L.len cv L bs rfl SU.out.own HN.out (by omega) ⟨u9.heap.size, 0, none⟩ rfl 6 7 z none 0 0 NW.out .nil wa.heap.size SZ.out (fun x hx => (HB.out x hx).1) SD.out ?_); intro a5 c5 u5 h1 h2)
      (try simp only [Exit.inBlock, Exit.then])
      go_ret
      exact BtS.done SU.out h1 h2 HB.out h0
end Go.Proofs.Ytmlganaiajhjeaa.By
