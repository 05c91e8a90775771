/-
  What is shown, by the program: a value by its kind; its parts. No statement is proved here.
-/
import Derived.Test.YtpmndefmibnaeaaDoorVIc
import Derived.Test.YtpmndefmibnaeaaDoorShelfI
import Derived.Deep.DeepCutAuto
import Derived.Deep.CutBlock
namespace Go.Proofs.YtpmndefmibnaeaaDoor.By
open Go.RowKit
set_option linter.unusedVariables false
set_option linter.unusedSimpArgs false

theorem conv_run {w : World} {a : Option Addr} {n c : Nat} {zs : List Int} (h : Reads w a n zs) : (convert 22 9 (.slice a n c)).run Tryd.prog w = .ok (.string (strOfNums zs)) w := by
  obtain ⟨hl, h⟩ := h
  rcases h with rfl | ⟨b, o, rfl, hc⟩
  · obtain rfl : zs = [] := List.eq_nil_of_length_eq_zero hl
    cases a with
    | none =>
      have := run_convert_bytes_nil (P := Tryd.prog) w 22 5 Tryd.underlying22 Tryd.underlying5 0 c 9 Tryd.underlying9
      rw [this]; rfl
    | some x =>
      have hl0 : (loadCells x 0).run Tryd.prog w = .ok (([] : List Int).map (Value.int .u8)).toArray w := by
        have := run_loadCells_list (P := Tryd.prog) w x ([] : List Value) (fun j v hj => by simp at hj)
        simpa using this
      rw [run_convert_bytes_string w 22 9 5 _ 0 c Tryd.underlying22 Tryd.underlying5 Tryd.underlying9, run_bytesToString w x 0 c [] hl0]
      rfl
  · exact run_convert_bytes_arg (P := Tryd.prog) w 22 5 Tryd.underlying22 Tryd.underlying5 b o n c zs hl hc 9 Tryd.underlying9
theorem ofB_str {zs : List Int} (h : Byt zs) : ofB (strOfNums zs).data.toList = zs := by
  have e : (strOfNums zs).data.toList = zs.map fun z => UInt8.ofNat z.toNat := by simp [strOfNums]
  unfold ofB
  rw [e, List.map_map]
  conv => rhs; rw [← List.map_id zs]
  refine List.map_congr_left fun z hz => ?_
  have := h z hz
  simp only [Function.comp_apply, id_eq, UInt8.toNat_ofNat']
  omega
theorem ofB_cat (a b : ByteArray) : ofB (a ++ b).data.toList = ofB a.data.toList ++ ofB b.data.toList := by
  rw [ByteArray.data_append, Array.toList_append, ofB_app]
theorem grown_growK (w : World) (k : Nat) (os : Array Obj) : w.grownBy (Go.Sort.grow (w.drewN k) os) none := by
  refine ⟨rfl, rfl, rfl, ?_, fun i hi _ => ?_⟩
  · show w.heap.size ≤ (w.heap ++ os).size
    simp
  · show (w.heap ++ os)[i]? = w.heap[i]?
    exact Array.getElem?_append_left hi
/-- What the showing leans on. -/
structure Env (W0 : World) (cells : V) (ca : Option Addr) (cl cc : Nat) : Prop where
  sl : SlVal W0 ca cl cells
  cc : cl ≤ cc
  sz : cells.size ≤ 1048576
  ok : okN cells
  tab : ∀ u, Below W0.heap.size W0 u → Lib.TabIs Tryd.prog u "internal/strconv.uint64pow10" .u64 Lib.pow10Tab
theorem itoaV (W0 : World) {cells : V} {ca : Option Addr} {cl cc : Nat} (h : Env W0 cells ca cl cc) (n : Int) (h0 : -9223372036854775808 ≤ n) (h1 : n ≤ 9223372036854775807) (w : World) (hb : Below W0.heap.size W0 w) :
    Calls Tryd.prog 41 #[.int .i64 n] w fun e u => ∃ st, e = .returned (.string st) ∧ ofB st.data.toList = intB n ∧ w.grownBy u none := by
  refine (Tryd.strconv_Itoa n h0 h1 w (h.tab w hb)).mono ?_
  rintro e u ⟨rfl, k, os, rfl⟩
  exact ⟨_, rfl, by simp [intB], grown_growK w k os⟩

def nestV (cells : V) (d : Nat) (zs hd : List Int) (x : RVal) : List Int := match d with
  | 0 => zs ++ [46, 46]
  | d + 1 => loopI (ipV cells d) (zs ++ hd) true (prt cells x) ++ (if (prt cells x).len = 0 then [] else [41])
theorem ipV_leaf (cells : V) (d : Nat) (s : List Int) (x : RVal) (h : leafQ x = true) : ipV cells d s x = s ++ leafI x := by cases d <;> simp [ipV, h]
theorem ipV_nest (cells : V) (d : Nat) (s : List Int) (x : RVal) (h : leafQ x = false) : ipV cells d s x = nestV cells d s (headV x) x := by cases d <;> simp [ipV, nestV, h]
theorem Clo.fr {W0 w u : World} {cells : V} {x : RVal} {ca : Option Addr} {cl cc p5 p3 B q : Nat} {v : Value} {zs : List Int} (h : Clo W0 w cells x ca cl cc p5 p3) (hW : WrO B q w v zs) (hF : FrP B q w u) : Clo W0 u cells x ca cl cc p5 p3 :=
  h.of fun i v hi => hF.cells hi (by decide) (fun e => by
    subst e
    rw [hW.box] at hi
    injection hi with hi
    injection hi with _ h2
    exact absurd h2 (by decide))
theorem WrO.look {w u : World} {B q p : Nat} {v : Value} {zs : List Int} {c0 c1 c2 c3 c4 : Value} (hW : WrO B q w v zs) (hF : FrP B q w u) (h : w.heap[p]? = some (.cells #[c0, c1, c2, c3, c4] 48 (0, 0))) : u.heap[p]? = some (.cells #[c0, c1, c2, c3, c4] 48 (0, 0)) :=
  hF.cells h (by decide) (fun e => by
    subst e
    rw [hW.box] at h
    injection h with h
    injection h with _ h2
    exact absurd h2 (by decide))

def PuC (W0 : World) (q : Nat) (cells : V) (ca : Option Addr) (cl cc : Nat) (d : Nat) : Prop := ∀ (x : RVal) (a1 : Option Addr) (l1 c1 p5 p3 : Nat) (v : Value) (zs : List Int) (w : World), RdB W0 a1 l1 x.text → l1 ≤ c1 → szVal x ≤ 1048576 → okX x → Below W0.heap.size W0 w → Clo W0 w cells x ca cl cc p5 p3 → WrO W0.heap.size q w v zs → zs.length + 24 * d ≤ 30200 →
  Calls Tryd.prog 33 #[.pointer (some ⟨q, 0, none⟩), LkV x a1 l1 c1 (prt cells x).len p5 p3, .int .i64 d] w fun e u => PrO W0.heap.size q w (ipV cells d zs x) e u
def NeC (W0 : World) (q : Nat) (cells : V) (ca : Option Addr) (cl cc : Nat) (d : Nat) : Prop := ∀ (x : RVal) (a1 : Option Addr) (l1 c1 p5 p3 : Nat) (v : Value) (zs : List Int) (st : ByteArray) (hd : List Int) (w : World), ofB st.data.toList = hd → hd.length ≤ 21 → szVal x ≤ 1048576 → okX x → Below W0.heap.size W0 w → Clo W0 w cells x ca cl cc p5 p3 → WrO W0.heap.size q w v zs → zs.length + 24 * d ≤ 30200 →
  Calls Tryd.prog 42 #[.pointer (some ⟨q, 0, none⟩), .string st, LkV x a1 l1 c1 (prt cells x).len p5 p3, .int .i64 d] w fun e u => PrO W0.heap.size q w (nestV cells d zs hd x) e u



set_option maxRecDepth 8000 in
set_option maxHeartbeats 4000000 in
theorem putT_of (W0 : World) (q : Nat) (cells : V) (ca : Option Addr) (cl cc : Nat) (hE : Env W0 cells ca cl cc) (d : Nat) (hd8 : d ≤ 8) (hN : NeC W0 q cells ca cl cc d) : PuC W0 q cells ca cl cc d := by
  intro x a1 l1 c1 p5 p3 v zs w ht hlc hsz hok hb hclo hW hlen
  obtain ⟨k, n, t, dl⟩ := x
  have hn := hok.1
  simp only [] at hn ht
  have hB := hb.size
  have g0 := World.grownBy_alloc w (.cells #[.int .i64 k, .int .i64 n, .slice a1 l1 c1, .int .i64 ((prt cells ⟨k, n, t, dl⟩).len : Nat), .func (Fn.func 32) #[] #[.pointer (some ⟨p5, 0, none⟩), .pointer (some ⟨p3, 0, none⟩)]] 48) none
  have b0 := heap_alloc_new w (.cells #[.int .i64 k, .int .i64 n, .slice a1 l1 c1, .int .i64 ((prt cells ⟨k, n, t, dl⟩).len : Nat), .func (Fn.func 32) #[] #[.pointer (some ⟨p5, 0, none⟩), .pointer (some ⟨p3, 0, none⟩)]] 48)
  have AL : Hid (WrO W0.heap.size q _ v zs ∧ FrP W0.heap.size q w _ ∧ Clo W0 _ cells ⟨k, n, t, dl⟩ ca cl cc p5 p3 ∧ Below W0.heap.size W0 _ ∧ _) := ⟨hW.grown g0, FrP.grown g0 hB, hclo.none g0, hb.grown g0 hB (fun k e => by cases e), b0⟩
  have CN : Hid (∀ (u : World) (v2 : Value) (st : ByteArray) (hd : List Int), _) := fun u v2 st hd h1 h2 h3 h4 h5 => hN ⟨k, n, t, dl⟩ a1 l1 c1 p5 p3 v2 zs st hd u h1 h2 hsz hok h3 h4 h5 hlen
  have HT : Hid (RdB W0 a1 l1 t ∧ l1 ≤ c1) := ⟨ht, hlc⟩
  have HX : Hid (okX ⟨k, n, t, dl⟩ ∧ Env W0 cells ca cl cc) := ⟨hok, hE⟩
  obtain ⟨⟨y0, y1, y2, y3, y4⟩, -⟩ := blkLook b0
  clear ht hlc hsz hok hb hclo hW g0 b0 hN hE
  unfold LkV
  obtain ⟨D, hD⟩ : ∃ D : Int, D = ((d : Nat) : Int) := ⟨_, rfl⟩
  rw [← hD]
  go_enter Tryd.func33, Tryd.ntmps33
  go_upto_region 1 with fail
  generalize w.alloc (.cells #[.int .i64 k, .int .i64 n, .slice a1 l1 c1, .int .i64 ((prt cells ⟨k, n, t, dl⟩).len : Nat), .func (Fn.func 32) #[] #[.pointer (some ⟨p5, 0, none⟩), .pointer (some ⟨p3, 0, none⟩)]] 48) = w1 at *
  generalize w.heap.size = pb at *
  by_cases h0 : k = 0
  · subst h0
    have EF : Hid (zs ++ [40, 41] = ipV cells d zs ⟨0, n, t, dl⟩) := by show _ = _; rw [ipV_leaf _ _ _ _ rfl]; rfl
    have CA : Hid _ := addT W0.heap.size q v zs ⟨#[40, 41]⟩ [40, 41] w1 AL.out.1 rfl (by simp only [List.length_cons, List.length_nil]; omega)
    clear CN
    go_wp2_with fail
    refine Calls.mono CA.out ?_
    rintro e u ⟨rfl, v2, hW2, hF2⟩
    have FF : Hid (WrO W0.heap.size q u v2 (ipV cells d zs ⟨0, n, t, dl⟩) ∧ FrP W0.heap.size q w u) := ⟨hW2.as EF.out, AL.out.2.1.trans hF2⟩
    clear hW2 hF2 CA AL y0 y1 y2 y3 y4
    simp only []
    go_wp2
    (try simp only [Exit.inBlock, Exit.then])
    refine bodyPost_end (results_noneK (P := Tryd.prog) Tryd.results33 _ _) rfl ?_
    exact ⟨rfl, v2, FF.out⟩
  by_cases h1 : k = 1
  · subst h1
    have EF : Hid (zs ++ intB n = ipV cells d zs ⟨1, n, t, dl⟩) := by show _ = _; rw [ipV_leaf _ _ _ _ rfl]; rfl
    have hil := intB_len20 hn.1 hn.2
    have CI : Hid _ := itoaV W0 HX.out.2 n hn.1 hn.2 w1 AL.out.2.2.2.1
    clear CN
    go_wp2_with fail
    refine Calls.mono CI.out ?_
    rintro e u ⟨st, rfl, hst, hg⟩
    have AM : Hid (WrO W0.heap.size q u v zs ∧ FrP W0.heap.size q w u) := ⟨AL.out.1.grown hg, AL.out.2.1.trans (FrP.grown hg AL.out.1.size)⟩
    have CA : Hid _ := addT W0.heap.size q v zs st (intB n) u AM.out.1 hst (by omega)
    clear CI hg AL y0 y1 y2 y3 y4
    simp only []
    go_wp2_with fail
    refine Calls.mono CA.out ?_
    rintro e z ⟨rfl, v2, hW2, hF2⟩
    have FF : Hid (WrO W0.heap.size q z v2 (ipV cells d zs ⟨1, n, t, dl⟩) ∧ FrP W0.heap.size q w z) := ⟨hW2.as EF.out, AM.out.2.trans hF2⟩
    clear hW2 hF2 CA AM
    simp only []
    go_wp2
    (try simp only [Exit.inBlock, Exit.then])
    refine bodyPost_end (results_noneK (P := Tryd.prog) Tryd.results33 _ _) rfl ?_
    exact ⟨rfl, v2, FF.out⟩
  by_cases h2 : k = 2
  · subst h2
    have EF : Hid (zs ++ ([34] ++ t.take 30000 ++ [34]) = ipV cells d zs ⟨2, n, t, dl⟩) := by show _ = _; rw [ipV_leaf _ _ _ _ rfl]; rfl
    clear CN
    obtain ⟨m, hm⟩ : ∃ m, m = min l1 30000 := ⟨_, rfl⟩
    have hml : m ≤ l1 := by omega
    have hm3 : m ≤ 30000 := by omega
    have hR := (HT.out.1.le (cle_belowV AL.out.2.2.2.1)).1
    have hRm : Reads w1 a1 m (t.take 30000) := by
      obtain ⟨r1, r2⟩ := hR
      refine ⟨by simp; omega, ?_⟩
      rcases r2 with r2 | ⟨b, o, e, r2⟩
      · exact .inl (by omega)
      · refine .inr ⟨b, o, e, fun i hi => ?_⟩
        rw [r2 i (by omega)]
        congr 2
        simp only [List.getD_eq_getElem?_getD]
        rw [List.getElem?_take_of_lt (by omega)]
    have hby : Byt (t.take 30000) := fun z hz => HT.out.1.2.1 z (List.mem_of_mem_take hz)
    have hcv : (convert 22 9 (.slice a1 m c1)).run Tryd.prog w1 = .ok (.string (strOfNums (t.take 30000))) w1 := conv_run hRm
    have hsz : (strOfNums (t.take 30000)).size = m := by
      have : (strOfNums (t.take 30000)).size = (t.take 30000).length := by simp [strOfNums, ByteArray.size]
      rw [this]; exact hRm.1
    have hst := ofB_str hby
    obtain ⟨S, hS⟩ : ∃ S, S = strOfNums (t.take 30000) := ⟨_, rfl⟩
    rw [← hS] at hcv hsz hst
    clear hS hRm hR hby
    have hs1 : ¬ 9223372036854775807 < 1 + S.size := by omega
    have hs2 : ¬ 9223372036854775807 < 1 + S.size + 1 := by omega
    have hmin : min (l1 : Int) 30000 = (m : Int) := by omega
    have hlc := HT.out.2
    have hmc : (m : Int) ≤ (c1 : Int) := by omega
    have CA : Hid _ := addT W0.heap.size q v zs (⟨#[34]⟩ ++ S ++ ⟨#[34]⟩) ([34] ++ t.take 30000 ++ [34]) w1 AL.out.1 (by rw [ofB_cat, ofB_cat, hst]; rfl) (by simp; omega)
    clear hm hst
    go_wp2_with fail
    refine Calls.mono CA.out ?_
    rintro e z ⟨rfl, v2, hW2, hF2⟩
    have FF : Hid (WrO W0.heap.size q z v2 (ipV cells d zs ⟨2, n, t, dl⟩) ∧ FrP W0.heap.size q w z) := ⟨hW2.as EF.out, AL.out.2.1.trans hF2⟩
    clear hW2 hF2 CA AL y0 y1 y2 y3 y4 hcv
    simp only []
    go_wp2
    (try simp only [Exit.inBlock, Exit.then])
    refine bodyPost_end (results_noneK (P := Tryd.prog) Tryd.results33 _ _) rfl ?_
    exact ⟨rfl, v2, FF.out⟩
  by_cases h4 : k = 4
  · subst h4
    have EF : Hid (zs ++ [102, 110] = ipV cells d zs ⟨4, n, t, dl⟩) := by show _ = _; rw [ipV_leaf _ _ _ _ rfl]; rfl
    have CA : Hid _ := addT W0.heap.size q v zs ⟨#[102, 110]⟩ [102, 110] w1 AL.out.1 rfl (by simp only [List.length_cons, List.length_nil]; omega)
    clear CN
    go_wp2_with fail
    refine Calls.mono CA.out ?_
    rintro e u ⟨rfl, v2, hW2, hF2⟩
    have FF : Hid (WrO W0.heap.size q u v2 (ipV cells d zs ⟨4, n, t, dl⟩) ∧ FrP W0.heap.size q w u) := ⟨hW2.as EF.out, AL.out.2.1.trans hF2⟩
    clear hW2 hF2 CA AL y0 y1 y2 y3 y4
    simp only []
    go_wp2
    (try simp only [Exit.inBlock, Exit.then])
    refine bodyPost_end (results_noneK (P := Tryd.prog) Tryd.results33 _ _) rfl ?_
    exact ⟨rfl, v2, FF.out⟩
  have hq : leafQ ⟨k, n, t, dl⟩ = false := by simp [leafQ, h0, h1, h2, h4]
  have EN : Hid (nestV cells d zs (headV ⟨k, n, t, dl⟩) ⟨k, n, t, dl⟩ = ipV cells d zs ⟨k, n, t, dl⟩) := (ipV_nest cells d zs _ hq).symm
  by_cases h5 : k = 5
  · subst h5
    have CC : Hid _ := CN.out w1 v ⟨#[114, 101, 102]⟩ [114, 101, 102] rfl (by simp) AL.out.2.2.2.1 AL.out.2.2.1 AL.out.1
    unfold LkV at CC
    rw [← hD] at CC
    clear CN hD
    go_wp2_with fail
    refine Calls.mono CC.out ?_
    rintro e z ⟨rfl, v2, hW2, hF2⟩
    have FF : Hid (WrO W0.heap.size q z v2 (ipV cells d zs ⟨5, n, t, dl⟩) ∧ FrP W0.heap.size q w z) := ⟨hW2.as EN.out, AL.out.2.1.trans hF2⟩
    clear hW2 hF2 CC AL y0 y1 y2 y3 y4
    simp only []
    go_wp2
    (try simp only [Exit.inBlock, Exit.then])
    refine bodyPost_end (results_noneK (P := Tryd.prog) Tryd.results33 _ _) rfl ?_
    exact ⟨rfl, v2, FF.out⟩
  by_cases h6 : k = 6
  · subst h6
    have hil := intB_len20 hn.1 hn.2
    have CI : Hid (∀ u, Below W0.heap.size W0 u → _) := fun u hu => itoaV W0 HX.out.2 n hn.1 hn.2 u hu
    have CC : Hid (∀ (u : World) (st : ByteArray), _) := fun u st h1 h3 h4 h5 => CN.out u v st ([35] ++ intB n) h1 (by simp; omega) h3 h4 h5
    unfold LkV at CC
    rw [← hD] at CC
    clear CN hD
    go_upto_region 14 with fail
    have gd := grown_drew (World.grownBy.refl w1 none)
    have AD : Hid (WrO W0.heap.size q w1.drew v zs ∧ FrP W0.heap.size q w w1.drew ∧ Clo W0 w1.drew cells ⟨6, n, t, dl⟩ ca cl cc p5 p3 ∧ Below W0.heap.size W0 w1.drew ∧ w1.drew.heap[pb]? = some (.cells #[.int .i64 6, .int .i64 n, .slice a1 l1 c1, .int .i64 ((prt cells ⟨6, n, t, dl⟩).len : Nat), .func (Fn.func 32) #[] #[.pointer (some ⟨p5, 0, none⟩), .pointer (some ⟨p3, 0, none⟩)]] 48 (0, 0))) :=
      ⟨AL.out.1.grown gd, AL.out.2.1.trans (FrP.grown gd AL.out.1.size), AL.out.2.2.1.none gd, AL.out.2.2.2.1.grown gd AL.out.1.size (fun k e => by cases e), (gd.block _ (lt_of_block AL.out.2.2.2.2) (by simp)).trans AL.out.2.2.2.2⟩
    clear AL y0 y1 y2 y3 y4 gd
    generalize prt cells ⟨6, n, t, dl⟩ = P at *
    refine wp_region_held_drew (S := (fun u => u.cell? ⟨pb, 0, none⟩ = some (.int .i64 6) ∧ u.cell? ⟨pb, 1, none⟩ = some (.int .i64 n) ∧ u.cell? ⟨pb, 2, none⟩ = some (.slice a1 l1 c1) ∧ u.cell? ⟨pb, 3, none⟩ = some (.int .i64 (P.len : Nat)) ∧ u.cell? ⟨pb, 4, none⟩ = some (.func (Fn.func 32) #[] #[.pointer (some ⟨p5, 0, none⟩), .pointer (some ⟨p3, 0, none⟩)]))) (by kernel_rfl) (blkLook AD.out.2.2.2.2).1 (fun hH => ?_)
    generalize w1.drew = v0 at *
    simp only [List.size_toArray, List.length_cons, List.length_nil, Nat.reduceAdd, Array.replicate, List.replicate]
    refine wpAnyH_take (i := 0) (v := ?_) rfl (by kernel_rfl) (by kernel_rfl) (by kernel_rfl) (fun _ _ _ h => h) (Or.inl ⟨by rfl, ?_⟩) hH ?_
    rotate_left
    · (intro v hS; obtain ⟨s0, s1, s2, s3, s4⟩ := hS; go_simp; try with_reducible rfl)
    simp only [Act.put, List.setIfInBounds_toArray, List.set_cons_zero, List.set_cons_succ, List.getElem_toArray, List.getElem_cons_succ, List.getElem_cons_zero]
    refine wpAnyH_take (i := 1) (v := ?_) rfl (by kernel_rfl) (by kernel_rfl) (by kernel_rfl) (fun _ _ _ h => h) (Or.inl ⟨by rfl, ?_⟩) hH ?_
    rotate_left
    · (intro v hS; obtain ⟨s0, s1, s2, s3, s4⟩ := hS; go_simp; try with_reducible rfl)
    simp only [Act.put, List.setIfInBounds_toArray, List.set_cons_zero, List.set_cons_succ, List.getElem_toArray, List.getElem_cons_succ, List.getElem_cons_zero]
    refine wpAnyH_take (i := 2) (v := ?_) rfl (by kernel_rfl) (by kernel_rfl) (by kernel_rfl) (fun _ _ _ h => h) (Or.inl ⟨by rfl, ?_⟩) hH ?_
    rotate_left
    · (intro v hS; obtain ⟨s0, s1, s2, s3, s4⟩ := hS; go_simp; try with_reducible rfl)
    simp only [Act.put, List.setIfInBounds_toArray, List.set_cons_zero, List.set_cons_succ, List.getElem_toArray, List.getElem_cons_succ, List.getElem_cons_zero]
    refine wpAnyH_take (i := 5) (v := ?_) rfl (by kernel_rfl) (by kernel_rfl) (by kernel_rfl) (fun _ _ _ h => h) (Or.inl ⟨by rfl, ?_⟩) hH ?_
    rotate_left
    · (intro v hS; obtain ⟨s0, s1, s2, s3, s4⟩ := hS; go_simp; try with_reducible rfl)
    simp only [Act.put, List.setIfInBounds_toArray, List.set_cons_zero, List.set_cons_succ, List.getElem_toArray, List.getElem_cons_succ, List.getElem_cons_zero]
    refine wpAnyH_take (i := 6) (v := ?_) rfl (by kernel_rfl) (by kernel_rfl) (by kernel_rfl) (fun _ _ _ h => h) (Or.inl ⟨by rfl, ?_⟩) hH ?_
    rotate_left
    · (intro v hS; obtain ⟨s0, s1, s2, s3, s4⟩ := hS; go_simp; try with_reducible rfl)
    simp only [Act.put, List.setIfInBounds_toArray, List.set_cons_zero, List.set_cons_succ, List.getElem_toArray, List.getElem_cons_succ, List.getElem_cons_zero]
    refine wpAnyH_ready (rs := [3]) (by kernel_rfl) (by simp) ?_
    refine AllReadyH.cons rfl (fun K hK => ?_) AllReadyH.nil
    go_simp
    refine Calls.mono (CI.out v0 AD.out.2.2.2.1) ?_
    rintro e u ⟨st, he, hst, hg⟩
    subst he
    have AM : Hid (WrO W0.heap.size q u v zs ∧ FrP W0.heap.size q w u ∧ Clo W0 u cells ⟨6, n, t, dl⟩ ca cl cc p5 p3 ∧ Below W0.heap.size W0 u ∧ u.heap[pb]? = some (.cells #[.int .i64 6, .int .i64 n, .slice a1 l1 c1, .int .i64 (P.len : Nat), .func (Fn.func 32) #[] #[.pointer (some ⟨p5, 0, none⟩), .pointer (some ⟨p3, 0, none⟩)]] 48 (0, 0))) :=
      ⟨AD.out.1.grown hg, AD.out.2.1.trans (FrP.grown hg AD.out.1.size), AD.out.2.2.1.none hg, AD.out.2.2.2.1.grown hg AD.out.1.size (fun k e => by cases e), (hg.block _ (lt_of_block AD.out.2.2.2.2) (by simp)).trans AD.out.2.2.2.2⟩
    have hsz : st.size = (intB n).length := by rw [← hst, ofB_len, Array.length_toList]; rfl
    have hs1 : ¬ 9223372036854775807 < 1 + st.size := by omega
    clear hsz
    have CD : Hid _ := CC.out u (⟨#[35]⟩ ++ st) (by rw [ofB_cat, hst]; rfl) AM.out.2.2.2.1 AM.out.2.2.1 AM.out.1
    clear AD hg CI CC hst
    refine hK.out _ _ (blkLook AM.out.2.2.2.2).1 (fun hH2 => ?_)
    clear hK K hH
    have hH := hH2
    clear hH2
    simp only [Act.put, List.setIfInBounds_toArray, List.set_cons_zero, List.set_cons_succ, List.getElem_toArray, List.getElem_cons_succ, List.getElem_cons_zero]
    refine wpAnyH_ready (rs := [4]) (by kernel_rfl) (by simp) ?_
    refine AllReadyH.cons rfl (fun K hK => ?_) AllReadyH.nil
    go_simp
    refine hK.out _ _ (blkLook AM.out.2.2.2.2).1 (fun hH2 => ?_)
    clear hK K hH
    have hH := hH2
    clear hH2
    simp only [Act.put, List.setIfInBounds_toArray, List.set_cons_zero, List.set_cons_succ, List.getElem_toArray, List.getElem_cons_succ, List.getElem_cons_zero]
    refine wpAnyH_ready (rs := [7]) (by kernel_rfl) (by simp) ?_
    refine AllReadyH.cons rfl (fun K hK => ?_) AllReadyH.nil
    go_simp
    refine Calls.mono CD.out ?_
    rintro e z ⟨he, v2, hW2, hF2⟩
    subst he
    have FF : Hid (WrO W0.heap.size q z v2 (ipV cells d zs ⟨6, n, t, dl⟩) ∧ FrP W0.heap.size q w z) := ⟨hW2.as EN.out, AM.out.2.1.trans hF2⟩
    have hHz := (blkLook (AM.out.1.look hF2 AM.out.2.2.2.2)).1
    clear hW2 hF2 CD AM
    refine hK.out _ _ hHz (fun hH2 => ?_)
    clear hK K hH hH2 hHz
    simp only [Act.put, List.setIfInBounds_toArray, List.set_cons_zero, List.set_cons_succ, List.getElem_toArray, List.getElem_cons_succ, List.getElem_cons_zero]
    refine wpAnyH_done (by kernel_rfl) ?_ _
    go_wp2
    (try simp only [Exit.inBlock, Exit.then])
    refine bodyPost_end (results_noneK (P := Tryd.prog) Tryd.results33 _ _) rfl ?_
    exact ⟨rfl, v2, FF.out⟩
  · have eh : headV ⟨k, n, t, dl⟩ = [] := by simp [headV, h5, h6]
    rw [eh] at EN
    have CC : Hid _ := CN.out w1 v ⟨#[]⟩ [] rfl (by simp) AL.out.2.2.2.1 AL.out.2.2.1 AL.out.1
    unfold LkV at CC
    rw [← hD] at CC
    clear CN hD
    go_wp2_with fail
    refine Calls.mono CC.out ?_
    rintro e z ⟨rfl, v2, hW2, hF2⟩
    have FF : Hid (WrO W0.heap.size q z v2 (ipV cells d zs ⟨k, n, t, dl⟩) ∧ FrP W0.heap.size q w z) := ⟨hW2.as EN.out, AL.out.2.1.trans hF2⟩
    clear hW2 hF2 CC AL y0 y1 y2 y3 y4
    simp only []
    go_wp2
    (try simp only [Exit.inBlock, Exit.then])
    refine bodyPost_end (results_noneK (P := Tryd.prog) Tryd.results33 _ _) rfl ?_
    exact ⟨rfl, v2, FF.out⟩
end Go.Proofs.YtpmndefmibnaeaaDoor.By
