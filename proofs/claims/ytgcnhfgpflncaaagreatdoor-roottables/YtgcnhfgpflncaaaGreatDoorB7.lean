/- Worlds in which one block alone may have turned. -/
import Derived.Test.YtgcnhfgpflncaaaGreatDoorB3
import Derived.Deep.QuietTactic
import Derived.Test.YtgcnhfgpflncaaaGreatDoorB1
namespace Go.Proofs.YtgcnhfgpflncaaaGreatDoor
open Go.RowKit
theorem bK(w:World)(row:Option Nat):w.grownBy w row:=⟨rfl,rfl,rfl,Nat.le_refl _,fun _ _ _=>rfl⟩
theorem az{w w1 w2:World}{row:Option Nat}(h:w.grownBy w1 row)(k:w1.grownBy w2 row):w.grownBy w2 row:=
 ⟨k.os.trans h.os,k.tape.trans h.tape,k.output.trans h.output,Nat.le_trans h.size k.size,fun j hj hne=>(k.block j (Nat.lt_of_lt_of_le hj h.size) hne).trans (h.block j hj hne)⟩
theorem aj(w:World)(g k:Nat)(u:Value):w.grownBy (w.setCell ⟨g,k,none⟩ u) (some g):=
 ⟨rfl,rfl,rfl,by simp,fun j _ hj=>heap_setCell_other w ⟨g,k,none⟩ j u (fun e=>hj (by simp[e]))⟩
theorem grown_drewN{a b:World}{g:Nat}(h:a.grownBy b (some g))(n:Nat):a.grownBy (b.drewN n) (some g):=
 ⟨h.os,h.tape,h.output,h.size,h.block⟩
theorem grown_below{a b c:World}{g:Nat}(h:a.grownBy b (some g))(k:Below b.heap.size b c):a.grownBy c (some g):=
 ⟨k.os.trans h.os,k.tape.trans h.tape,k.output.trans h.output,Nat.le_trans h.size k.size,fun j hj hn=>(k.block j (Nat.lt_of_lt_of_le hj h.size)).trans (h.block j hj hn)⟩
theorem below_grown{a b c:World}{B g:Nat}(h:Below B a b)(k:b.grownBy c (some g))(hg:B<=g)(hB:B<=b.heap.size):Below B a c:=h.grown k hB (fun j hj=>by cases hj;exact hg)
end Go.Proofs.YtgcnhfgpflncaaaGreatDoor
/- twice:a row is doubled in place,and lessened by d where it is not below it. -/
namespace Go.Proofs.YtgcnhfgpflncaaaGreatDoor
open Go.RowKit
theorem Lq{w:World}{base t g n cap:Nat}{os rs:List Nat}{k d:Nat}(h:w.ownsRow base t 1 (.slice (some ⟨g,0,none⟩) n cap) n (cellsOf (os++rs.drop k)))(hk:os.length=k)(hr:k<rs.length):
  (w.setCell ⟨g,k,none⟩ (.int .u64 ((d:Nat):Int))).ownsRow base t 1 (.slice (some ⟨g,0,none⟩) n cap) n (cellsOf ((os++[d])++rs.drop (k+1)))/\w.grownBy (w.setCell ⟨g,k,none⟩ (.int .u64 ((d:Nat):Int))) (some g):=by
 have hs:=h.stored k (.int .u64 ((d:Nat):Int))
 have e:(cellsOf (os++rs.drop k)).set k (.int .u64 ((d:Nat):Int))=cellsOf ((os++rs.drop k).set k d):=by simp only[cellsOf,List.map_set]
 rw[e,set_mid os rs k d hk hr]at hs
 exact hs
end Go.Proofs.YtgcnhfgpflncaaaGreatDoor
/- Blocks of values. -/
namespace Go.Proofs.YtgcnhfgpflncaaaGreatDoor
open Go.RowKit
def fM(w:World)(g:Nat)(vs:List Value)(t:Nat):Prop:=w.heap[g]?=some (.cells vs.toArray t (0,0))
theorem fM.lt{w:World}{g t:Nat}{vs:List Value}(h:fM w g vs t):g<w.heap.size:=(Array.getElem?_eq_some_iff.1 h).1
theorem fM.cell{w:World}{g t:Nat}{vs:List Value}(h:fM w g vs t)(j:Nat)(hj:j<vs.length):w.cell? ⟨g,j,none⟩=some (vs.getD j undef):=by
 rw[cell_of_row w g j _ _ (0,0) h]
 simp[hj]
theorem fM.frozen{w:World}{g t:Nat}{vs:List Value}(h:fM w g vs t)(j:Nat):w.frozen? ⟨g,j,none⟩=false:=frozen_of_row w g j _ _ h
theorem fM.set{w:World}{g t:Nat}{vs:List Value}(h:fM w g vs t)(k:Nat)(d:Value):fM (w.setCell ⟨g,k,none⟩ d) g (vs.set k d) t:=by
 have:=heap_setCell_same w g k _ _ d h
 show _=_
 rw[this]
 simp
theorem fM.next{w w':World}{g t:Nat}{vs:List Value}(h:fM w g vs t)(hb:Below w.heap.size w w'):fM w' g vs t:=(hb.block g h.lt).trans h
theorem fM.but{w w':World}{g t k:Nat}{vs:List Value}(h:fM w g vs t)(hb:w.grownBy w' (some k))(hk:g≠k):fM w' g vs t:=(hb.block g h.lt (fun e=>hk (Option.some.inj e))).trans h
end Go.Proofs.YtgcnhfgpflncaaaGreatDoor
/- make of rows of rows:each is nil. -/
namespace Go.Proofs.YtgcnhfgpflncaaaGreatDoor
open Go.RowKit
theorem Tryz.infoNat:(Tryz.prog.info? 29).map (fun i=>(i.zero,i.size,i.bytes))=some (some (.slice none 0 0),1,24):=by kernel_rfl
theorem G4:∃ i:TypeInfo,Tryz.prog.info? 29=some i/\i.zero=some (.slice none 0 0)/\i.size=1/\i.bytes=24:=by
 have h:=Tryz.infoNat
 cases hi:Tryz.prog.info? 29 with
 |none=>rw[hi]at h;cases h
 |some i=>
  rw[hi]at h
  simp at h
  exact⟨i,rfl,h.1,h.2.1,h.2.2⟩
def mW(n:Nat):List Value:=List.replicate n (.slice none 0 0)
theorem Dk(n:Nat):madeCells (Value.slice none 0 0).cells n=(mW n).toArray:=by
 have e:(Value.slice none 0 0).cells=#[Value.slice none 0 0]:=rfl
 rw[e]
 apply Array.ext'
 rw[toList_madeCells_one]
 simp[mW]
theorem Dl(n:Nat)(hb:n<=1048576):∀ w,(Instr.makeSlice 113 (.int .i64 (n:Int)) (.int .i64 (n:Int))).run Tryz.prog w=.ok (.slice (some ⟨w.heap.size,0,none⟩) n n) (w.alloc (.cells (mW n).toArray 29)):=fun w=>by
 obtain⟨i0,hi,hz0,hz1,hz2⟩:=G4
 have h:=run_make (P:=Tryz.prog) w 113 29 i0 (.slice none 0 0) Tryz.underlying113 hi hz0 .i64 .i64 (n:Int) (n:Int) (by omega) (by omega) (by rw[hz2];omega) (by omega)
 rw[h]
 have e1:((n:Int)).toNat=n:=by omega
 rw[e1,hz1,Nat.mul_one,Dk]
end Go.Proofs.YtgcnhfgpflncaaaGreatDoor
