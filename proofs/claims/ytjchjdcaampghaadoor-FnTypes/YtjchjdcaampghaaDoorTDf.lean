/-
  Bytes and a place that are drawn for the reader of types. No statement is proved here.
-/
import Derived.Test.YtjchjdcaampghaaDoorTDz
import Derived.Test.YtjchjdcaampghaaDoorTBytesX
import Derived.Test.YtjchjdcaampghaaDoorSpoilX
namespace Go.Proofs.YtjchjdcaampghaaDoor.By
open Go.RowKit
set_option linter.unusedVariables false
set_option linter.unusedSimpArgs false

theorem Cur.fr {w0 w u : World} {g n cap B : Nat} {a : Option Addr} (h : Cur w0 w g a n cap) (hf : Fr B w u) (hB : w0.heap.size ≤ B) : Cur w0 u g a n cap := by
  obtain ⟨h1, h2, i, x, hb, hi⟩ := h
  exact ⟨h1, ⟨hf.below.os.trans h2.os, hf.below.tape.trans h2.tape, hf.below.output.trans h2.output, Nat.le_trans h2.size hf.below.size, fun j hj => (hf.below.block j (by omega)).trans (h2.block j hj)⟩, i, x, hf.other g _ _ _ hb (by decide), hi⟩
theorem Mine.formX {w : World} {B : Nat} {v : Value} {ys : List Int} (h : Mine w B v ys) : ∃ a2 c2, v = .slice a2 ys.length c2 := by
  obtain ⟨h1, -⟩ := h
  rcases h1.2 with ⟨rfl, h0⟩ | ⟨g, cap, cur, rfl, _⟩
  · rw [← h0]; exact ⟨_, _, rfl⟩
  · exact ⟨_, _, rfl⟩

set_option maxRecDepth 8000 in
set_option maxHeartbeats 4000000 in
theorem drawReadT (a : Option Addr) (n cap : Nat) (zs : List Int) (w : World) (hr : Reads w a n zs) (hz : Byt zs) (hn : n ≤ 9223372036854775807) :
    Calls Tryd.prog 11 #[.slice a n cap] w fun e w' => ∃ v ys x, e = .returned (.tuple #[v, .int .i64 x]) ∧ ys.length ≤ 100000 ∧ Mine w' w.heap.size v ys ∧ I64 x ∧ w.grownBy w' none := by
  have hO := fun w1 g hc m hm hm1 => onceT w w1 g a n cap zs hr hz hn hc m hm hm1
  have hS := fun w1 g hc m hm hm1 => someT w w1 g a n cap zs hr hz hn hc m hm hm1
  have hA := fun w1 g hc => l3anyZ w g a n cap zs hr hz hn w1 hc
  have hP := fun w1 g hc l P h0 h1 hI => pickP w w1 g a n cap zs hr hz hn hc l P h0 h1 hI
  have hZ := fun w1 g hc gb nb capb bs hb hbl hbb hnb => spoilT w w1 g a n cap zs hr hz hn hc gb nb capb bs hb hbl hbb hnb
  have HO : Hid (∀ w1 g, Cur w w1 g a n cap → ∀ m : Int, 0 < m → m ≤ 9223372036854775807 → Calls Tryd.prog 24 #[.pointer (some ⟨g, 0, none⟩), .int .i64 m] w1 fun e w' => ∃ x : Bool, e = .returned (.bool x) ∧ Kept w w1 w' g a n cap) := hO
  have HS : Hid (∀ w1 g, Cur w w1 g a n cap → ∀ m : Int, 0 ≤ m → m ≤ 100 → Calls Tryd.prog 22 #[.pointer (some ⟨g, 0, none⟩), .int .i64 m] w1 fun e w' => ∃ v ys, e = .returned v ∧ (ys.length : Int) ≤ m ∧ Mine w' w1.heap.size v ys ∧ Kept w w1 w' g a n cap) := hS
  have HA : Hid (∀ w1 g, Cur w w1 g a n cap → Calls Tryd.prog 16 #[.pointer (some ⟨g, 0, none⟩)] w1 fun e u => DrZ w w1 g a n cap e u) := hA
  have HP : Hid (∀ w1 g, Cur w w1 g a n cap → ∀ (l : List Int) (P : Int → Prop), 0 < l.length → l.length ≤ 1000 → (∀ x ∈ l, P x) → Calls Tryd.prog 26 #[.pointer (some ⟨g, 0, none⟩), .slice (some ⟨w1.heap.size, 0, none⟩) l.length l.length] (w1.alloc (.cells (l.map (Value.int .i64)).toArray 3)) fun e w' => ∃ x, e = .returned (.int .i64 x) ∧ P x ∧ Kept w w1 w' g a n cap) := hP
  have HZ : Hid (∀ w1 g, Cur w w1 g a n cap → ∀ (gb nb capb : Nat) (bs : List Int), Row w1 gb capb bs → bs.length = nb → Byt bs → nb ≤ 100000 → Calls Tryd.prog 25 #[.pointer (some ⟨g, 0, none⟩), .slice (some ⟨gb, 0, none⟩) nb capb] w1 fun e w' => ∃ v ys, e = .returned v ∧ ys.length ≤ nb + 1 ∧ Mine w' w1.heap.size v ys ∧ Kept w w1 w' g a n cap) := hZ
  have hN := newT a n cap zs w hr hz hn
  clear hO hS hA hP hZ hr hz
  go_enter Tryd.func11, Tryd.ntmps11
  go_wp2_with fail
  refine hN.mono ?_
  rintro e w1 ⟨g, rfl, hc, hg⟩
  clear hN
  have hgB : g < w1.heap.size := hc.lt
  have hwB : w.heap.size ≤ w1.heap.size := hg.size
  clear hg
  generalize hB1 : w1.heap.size = B1 at *
  have HB1 : Hid (w1.heap.size = B1) := hB1
  clear hB1
  go_wp2_with fail
  refine (HS.out w1 g hc 3 (by omega) (by omega)).mono ?_
  rintro e w2 ⟨v2, y2, rfl, hy2, hm2, hk2⟩
  rw [HB1.out] at hm2
  have hl2 : y2.length ≤ 3 := by omega
  obtain ⟨a2, c2, rfl⟩ := hm2.formX
  have HM2 : Hid (Mine w2 B1 (.slice a2 y2.length c2) y2) := hm2
  have HK2 : Hid (Kept w w1 w2 g a n cap) := hk2
  clear hm2 hk2 hc
  generalize hk2' : y2.length = k2 at *
  have HY2 : Hid (y2.length = k2) := hk2'
  clear hk2'
  go_wp2_with fail
  refine (HA.out w2 g HK2.out.1).mono ?_
  rintro e w3 ⟨k, m, f, a1, l1, c1, bs, rfl, hk3, hnw, hfs⟩
  have hm3 := HM2.out.kept hk3.2 (by intro k hk; cases hk; exact hgB)
  have hs3 : B1 ≤ w3.heap.size := by have h1 := HK2.out.2.size; have h2 := hk3.2.size; have := HB1.out; omega
  have hX := l3bytesX B1 (f.size + 1) f k m a1 l1 c1 (.slice a2 k2 c2) y2 w3 bs (Nat.lt_succ_self _) hnw.1 hs3 hm3.1 (by have := HY2.out; omega)
  have HX : Hid _ := hX
  have HC3 : Hid (Cur w w3 g a n cap) := hk3.1
  have HB2 : Hid (Byt y2) := HM2.out.2
  clear hX hk3 hnw hm3 HM2 HK2 HB1
  go_wp2_with fail
  refine Calls.mono HX.out ?_
  rintro e w4 ⟨v4, rfl, hA4, hF4⟩
  have HC4 : Hid (Cur w w4 g a n cap) := HC3.out.fr hF4 hwB
  obtain ⟨gb, cb, rfl, hgb, hrow, hcb⟩ := hA4.row
  have hLb : (y2 ++ tyW k m f).length ≤ 60000 := by
    have h1 := headW_len k m f.len
    have h2 := bytesW_len f
    simp only [tyW, List.length_append] at *
    have := HY2.out
    omega
  have HBB : Hid (Byt (y2 ++ tyW k m f)) := fun z hz => (List.mem_append.1 hz).elim (HB2.out z) (tyW_byt k m f z)
  have HRW : Hid (Row w4 gb cb (y2 ++ tyW k m f)) := hrow
  have HCB : Hid (cb ≤ maxLen) := hcb
  have hsc : B1 ≤ w4.heap.size := Nat.le_trans hgb (Nat.le_of_lt hrow.lt)
  clear HX hA4 hF4 hrow hcb HC3 HB2 hs3
  generalize (y2 ++ tyW k m f) = bb at *
  generalize hnb : bb.length = nb at *
  have HBL : Hid (bb.length = nb) := hnb
  clear hnb
  go_wp2_with fail
  refine (HO.out w4 g HC4.out 3 (by omega) (by omega)).mono ?_
  rintro e w6 ⟨x6, rfl, hk6⟩
  have HR6 : Hid (Row w6 gb cb bb) := HRW.out.kept hk6.2 (by simp; omega)
  have HC6 : Hid (Cur w w6 g a n cap) := hk6.1
  have hs6 : B1 ≤ w6.heap.size := Nat.le_trans hsc hk6.2.size
  clear hk6 HRW HC4 hsc HA HS
  go_upto_if 18 with fail
  go_cut [5] (fun s5 wx => ∃ ys : List Int, ys.length ≤ 60001 ∧ Hid (Mine wx B1 s5 ys) ∧ Hid (Cur w wx g a n cap) ∧ Hid (B1 ≤ wx.heap.size))
  case first =>
    cases x6 with
    | true =>
      go_wp2_with fail
      refine (HZ.out w6 g HC6.out gb nb cb bb HR6.out HBL.out HBB.out (by omega)).mono ?_
      rintro e w7 ⟨v7, y7, rfl, hy7, hm7, hk7⟩
      go_wp2_with fail
      go_meet
      exact ⟨y7, by omega, hm7.mono hs6, hk7.1, Nat.le_trans hs6 hk7.2.size⟩
    | false =>
      go_wp2_with fail
      go_meet
      have M := mine_row HR6.out HBB.out hgb HCB.out
      rw [HBL.out] at M
      exact ⟨bb, by have := HBL.out; omega, M, HC6, hs6⟩
  case rest =>
  obtain ⟨ys, hyl, HMN, HCN, HSN⟩ := hcut
  obtain ⟨av, cv, rfl⟩ := HMN.out.formX
  clear HR6 HC6 HBL HBB HCB HZ
  generalize hkk : ys.length = kk at *
  have HKK : Hid (ys.length = kk) := hkk
  clear hkk
  go_wp2_with fail
  refine (HO.out _ g HCN.out 9 (by omega) (by omega)).mono ?_
  rintro e w8 ⟨x8, rfl, hk8⟩
  have HM8 : Hid (Mine w8 B1 (.slice av kk cv) ys) := HMN.out.kept hk8.2 (by intro k hk; cases hk; exact hgB)
  have HC8 : Hid (Cur w w8 g a n cap) := hk8.1
  clear hk8 HMN HCN HSN
  go_upto_if 23 with fail
  go_cut [6] (fun s6 wx => ∃ A : Int, s6 = .int .i64 A ∧ I64 A ∧ Hid (Mine wx B1 (.slice av kk cv) ys) ∧ Hid (Cur w wx g a n cap))
  case first =>
    cases x8 with
    | true =>
      go_wp2_with fail
      refine (HP.out w8 g HC8.out [-1, (kk : Int), 0, 4611686018427387904] I64 (by simp) (by simp) (by intro x hx; simp at hx; unfold I64; omega)).mono ?_
      rintro e w9 ⟨A, rfl, hA, hk9⟩
      go_wp2_with fail
      go_meet
      exact ⟨A, rfl, hA, HM8.out.kept hk9.2 (by intro k hk; cases hk; exact hgB), hk9.1⟩
    | false =>
      go_wp2_with fail
      go_meet
      exact ⟨_, rfl, ⟨by omega, by omega⟩, HM8, HC8⟩
  case rest =>
  obtain ⟨A, rfl, hA, HMN, HCN⟩ := hcut
  clear HM8 HC8 HP HO
  go_wp2
  go_ret2
  exact ⟨_, ys, A, rfl, by have := HKK.out; omega, HMN.out.mono hwB, hA, ⟨HCN.out.2.1.os, HCN.out.2.1.tape, HCN.out.2.1.output, HCN.out.2.1.size, fun k hk _ => HCN.out.2.1.block k hk⟩⟩
end Go.Proofs.YtjchjdcaampghaaDoor.By
