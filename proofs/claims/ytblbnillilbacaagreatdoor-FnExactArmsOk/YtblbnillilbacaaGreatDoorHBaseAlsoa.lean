/-
  No statement is proved here.
-/
import Derived.Test.YtblbnillilbacaaGreatDoorZ0a
import Derived.ProofKit
import Derived.WalkSpells
import Derived.WalkSmall
import Derived.OpenShut
namespace Go.Proofs.YtblbnillilbacaaGreatDoor.By
open Go.RowKit
def vals (zs:List Int):List Value:=zs.map (Value.int .u8)
def Byt (zs:List Int):Prop:=∀ z ∈ zs,0≤z∧z≤255
def Reads (w:World) (a:Option Addr) (n:Nat) (zs:List Int):Prop :=
 zs.length=n∧(n=0∨∃ b off,a=some ⟨b,off,none⟩∧∀ i,i < n→w.cell? ⟨b,off+i,none⟩=some (.int .u8 (zs.getD i 0)))
def Row (w:World) (g cap:Nat) (zs:List Int):Prop :=
 ∃ cur,w.heap[g]? = some (.cells cur 5 (0,0))∧cur.size=cap∧cur.toList.take zs.length=vals zs∧zs.length≤cap
theorem Row.lt {w:World} {g cap:Nat} {zs:List Int} (h:Row w g cap zs):g < w.heap.size:=by
 obtain ⟨cur,hc,_⟩:=h;exact lt_of_block hc
theorem Row.of_block {w w':World} {g cap:Nat} {zs:List Int} (h:Row w g cap zs) (e:w'.heap[g]? = w.heap[g]?):Row w' g cap zs:=by
 obtain ⟨cur,hc,r⟩:=h;exact ⟨cur,by rw[e];exact hc,r⟩
theorem Row.kept {w w':World} {g cap:Nat} {zs:List Int} {row:Option Nat} (h:Row w g cap zs) (hg:w.grownBy w' row) (hne:some g≠row):Row w' g cap zs :=
 h.of_block (hg.block g h.lt hne)
theorem Row.free {w:World} {g cap:Nat} {zs:List Int} (h:Row w g cap zs) (j:Nat):w.frozen? ⟨g,j,none⟩=false:=by
 obtain ⟨cur,hc,_⟩:=h;exact frozen_of_row w g j cur 5 hc
theorem Row.cell {w:World} {g cap:Nat} {zs:List Int} (h:Row w g cap zs) (j:Nat) (hj:j < zs.length):w.cell? ⟨g,j,none⟩=some (.int .u8 (zs.getD j 0)):=by
 obtain ⟨cur,hc,_,ht,_⟩:=h;rw[cell_of_row w g j cur 5 (0,0) hc]
 have h1:(cur.toList.take zs.length)[j]? = cur.toList[j]?:=by rw[List.getElem?_take];simp [hj]
 rw[ht] at h1;rw[← Array.getElem?_toList,← h1];simp [vals,hj]
theorem Row.reads {w:World} {g cap:Nat} {zs:List Int} (h:Row w g cap zs):Reads w (some ⟨g,0,none⟩) zs.length zs :=
 ⟨rfl,.inr ⟨g,0,rfl,fun i hi=>by simpa using h.cell i hi⟩⟩
theorem Row.reads' {w:World} {g cap n:Nat} {zs:List Int} (h:Row w g cap zs) (hn:zs.length=n):Reads w (some ⟨g,0,none⟩) n zs:=by subst hn;exact h.reads
theorem Row.store {w:World} {g cap:Nat} {zs:List Int} (h:Row w g cap zs) (j:Nat) (x:Int):Row (w.setCell ⟨g,j,none⟩ (.int .u8 x)) g cap (zs.set j x):=by
 obtain ⟨cur,hc,hs,ht,hl⟩:=h;refine ⟨cur.set! j (.int .u8 x),heap_setCell_same w g j cur 5 _ hc,by simp [hs],?_,by simpa using hl⟩;simp only[List.length_set,vals,List.map_set,Array.set!_eq_setIfInBounds,Array.toList_setIfInBounds];rw[List.take_set,ht];rfl
theorem gsc (w:World) (g j:Nat) (v:Value):w.grownBy (w.setCell ⟨g,j,none⟩ v) (some g) :=
 ⟨rfl,rfl,rfl,by simp [World.setCell],fun k _ hk=>heap_setCell_other w _ k v (by simpa using hk)⟩
theorem gtr {a b c:World} {row:Option Nat} (h:a.grownBy b row) (k:b.grownBy c row):a.grownBy c row :=
 ⟨k.os.trans h.os,k.tape.trans h.tape,k.output.trans h.output,Nat.le_trans h.size k.size,fun i hi hr=>(k.block i (Nat.lt_of_lt_of_le hi h.size) hr).trans (h.block i hi hr)⟩
theorem grown_drewN (w:World) (n:Nat) (row:Option Nat):w.grownBy (w.drewN n) row:=⟨rfl,rfl,rfl,Nat.le_refl _,fun _ _ _=>rfl⟩
theorem grown_none {a b:World} (h:a.grownBy b Option.none) (row:Option Nat):a.grownBy b row:=⟨h.os,h.tape,h.output,h.size,fun i hi _=>h.block i hi (by simp)⟩
theorem grown_own {a w:World} (h:a.grownBy w Option.none) (g:Nat) (hg:a.heap.size≤g) (j:Nat) (v:Value):a.grownBy (w.setCell ⟨g,j,Option.none⟩ v) Option.none :=
 ⟨h.os,h.tape,h.output,by simpa [World.setCell] using h.size,fun k hk _=>(heap_setCell_other w _ k v (by simp;omega)).trans (h.block k hk (by simp))⟩
theorem set_step (zs:List Int) (n k:Nat) (hl:zs.length=n) (hk:k < n):(zs.take k++List.replicate (n - k) 0).set k (zs.getD k 0)=zs.take (k+1)++List.replicate (n - (k+1)) 0:=by
 have h1:(zs.take k).length=k:=by simp;omega
 rw[List.set_append_right k _ (by omega),h1,Nat.sub_self]
 have h2:n - k=(n - (k+1))+1:=by omega
 have h3:zs.getD k 0=zs[k]'(by omega):=by rw[List.getD_eq_getElem?_getD,List.getElem?_eq_getElem (by omega)];rfl
 rw[h2,List.replicate_succ,List.set_cons_zero,List.take_succ_eq_append_getElem (by omega),h3,List.append_assoc,List.singleton_append]
theorem made_row (w:World) (n:Nat):Row (w.alloc (.cells (madeCells #[.int .u8 0] n) 5)) w.heap.size n (List.replicate n 0):=by
 refine ⟨_,heap_alloc_new w _,?_,?_,by simp⟩
 ·
  have:=congrArg List.length (toList_madeCells_one (.int .u8 0) n);simpa using this
 ·
  rw[toList_madeCells_one];simp [vals]
theorem quiet {w w':World} (h:∃ m,w' = w.drewN m):w.grownBy w' Option.none:=by
 obtain ⟨m,rfl⟩:=h;exact grown_drewN _ _ _
theorem grown_alloc {a w:World} (h:a.grownBy w Option.none) (o:Obj):a.grownBy (w.alloc o) Option.none:=gtr h (gal _ _ _)
theorem grown_drew {a w:World} (h:a.grownBy w Option.none):a.grownBy w.drew Option.none:=gtr h (grown_drewN w 1 _)
theorem alloc3_blocks (w:World) (A B C:Obj):(((w.alloc A).alloc B).alloc C).heap[w.heap.size]? = some A∧(((w.alloc A).alloc B).alloc C).heap[w.heap.size+1]? = some B∧(((w.alloc A).alloc B).alloc C).heap[w.heap.size+1+1]? = some C∧(((w.alloc A).alloc B).alloc C).heap.size=w.heap.size+1+1+1:=by
 have e1:(w.alloc A).heap.size=w.heap.size+1:=by simp
 have e2:((w.alloc A).alloc B).heap.size=w.heap.size+1+1:=by simp
 refine ⟨?_,?_,?_,by simp⟩
 ·
  rw[heap_alloc_old _ _ (by omega),heap_alloc_old _ _ (by omega)];exact heap_alloc_new w A
 ·
  rw[heap_alloc_old _ _ (by omega)];have:=heap_alloc_new (w.alloc A) B;rw[e1] at this;exact this
 ·
  have:=heap_alloc_new ((w.alloc A).alloc B) C;rw[e2] at this;exact this
theorem grown_into {a w w':World} {p:Nat} (h:a.grownBy w Option.none) (k:w.grownBy w' (some p)) (hp:a.heap.size≤p):a.grownBy w' Option.none :=
 ⟨k.os.trans h.os,k.tape.trans h.tape,k.output.trans h.output,Nat.le_trans h.size k.size,fun i hi _=>(k.block i (Nat.lt_of_lt_of_le hi h.size) (by simp;omega)).trans (h.block i hi (by simp))⟩
end Go.Proofs.YtblbnillilbacaaGreatDoor.By
