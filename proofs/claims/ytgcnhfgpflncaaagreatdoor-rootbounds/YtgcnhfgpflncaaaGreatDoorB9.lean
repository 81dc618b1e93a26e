/- The meter: three counts, at place o of block g. -/
import Derived.Test.YtgcnhfgpflncaaaGreatDoorB7
import Derived.Deep.QuietTactic
import Derived.BigQuiet
import Derived.WalkSmall
import Derived.RegionTactic
import Derived.Defers
namespace Go.Proofs.YtgcnhfgpflncaaaGreatDoor
open Go.RowKit
structure Met(w:World)(g o:Nat)(s l m:Int):Prop where
 c0:w.cell? ⟨g,o,none⟩=some (.int .i64 s)
 c1:w.cell? ⟨g,o+1,none⟩=some (.int .i64 l)
 c2:w.cell? ⟨g,o+2,none⟩=some (.int .i64 m)
 f0:w.frozen? ⟨g,o,none⟩=false
 f1:w.frozen? ⟨g,o+1,none⟩=false
 f2:w.frozen? ⟨g,o+2,none⟩=false
structure Touch(g o n:Nat)(w w':World):Prop where
 grown:w.grownBy w' (some g)
 cell:∀ j,(j<o\/o+n<=j)->w'.cell? ⟨g,j,none⟩=w.cell? ⟨g,j,none⟩
 frozen:∀ j,w'.frozen? ⟨g,j,none⟩=w.frozen? ⟨g,j,none⟩
theorem Touch.trans{g o n:Nat}{a b c:World}(h:Touch g o n a b)(k:Touch g o n b c):Touch g o n a c:=
 ⟨az h.grown k.grown,fun j hj=>(k.cell j hj).trans (h.cell j hj),fun j=>(k.frozen j).trans (h.frozen j)⟩
theorem Touch.drewN{g o n:Nat}{a b:World}(h:Touch g o n a b)(k:Nat):Touch g o n a (b.drewN k):=⟨grown_drewN h.grown k,h.cell,h.frozen⟩
theorem Touch.drew{g o n:Nat}{a b:World}(h:Touch g o n a b):Touch g o n a b.drew:=h.drewN 1
theorem Touch.set(g o n k:Nat)(w:World)(v:Value)(hk:k<n):Touch g o n w (w.setCell ⟨g,o+k,none⟩ v):=
 ⟨aj _ _ _ _,fun j hj=>World.cell?_setCell_other _ _ _ _ (by intro e;injection e;omega),fun j=>by simp⟩
theorem Met.set0{w:World}{g o:Nat}{s l m:Int}(h:Met w g o s l m)(v:Int):Met (w.setCell ⟨g,o,none⟩ (.int .i64 v)) g o v l m:=
 ⟨World.cell?_setCell_same _ _ _ h.c0,(World.cell?_setCell_other _ _ _ _ (by simp)).trans h.c1,(World.cell?_setCell_other _ _ _ _ (by simp)).trans h.c2,by simp[h.f0],by simp[h.f1],by simp[h.f2]⟩
theorem Met.set1{w:World}{g o:Nat}{s l m:Int}(h:Met w g o s l m)(v:Int):Met (w.setCell ⟨g,o+1,none⟩ (.int .i64 v)) g o s v m:=
 ⟨(World.cell?_setCell_other _ _ _ _ (by simp)).trans h.c0,World.cell?_setCell_same _ _ _ h.c1,(World.cell?_setCell_other _ _ _ _ (by simp)).trans h.c2,by simp[h.f0],by simp[h.f1],by simp[h.f2]⟩
theorem Met.set2{w:World}{g o:Nat}{s l m:Int}(h:Met w g o s l m)(v:Int):Met (w.setCell ⟨g,o+2,none⟩ (.int .i64 v)) g o s l v:=
 ⟨(World.cell?_setCell_other _ _ _ _ (by simp)).trans h.c0,(World.cell?_setCell_other _ _ _ _ (by simp)).trans h.c1,World.cell?_setCell_same _ _ _ h.c2,by simp[h.f0],by simp[h.f1],by simp[h.f2]⟩
theorem Met.drewN{w:World}{g o:Nat}{s l m:Int}(h:Met w g o s l m)(k:Nat):Met (w.drewN k) g o s l m:=⟨h.c0,h.c1,h.c2,h.f0,h.f1,h.f2⟩
theorem Met.lt{w:World}{g o:Nat}{s l m:Int}(h:Met w g o s l m):g<w.heap.size:=World.block_lt_of_cell? _ _ h.c0
theorem Met.next{w w':World}{g o:Nat}{s l m:Int}(h:Met w g o s l m)(hb:Below w.heap.size w w'):Met w' g o s l m:=
 ⟨(hb.cell (p:=⟨g,o,none⟩) h.lt).trans h.c0,(hb.cell (p:=⟨g,o+1,none⟩) h.lt).trans h.c1,(hb.cell (p:=⟨g,o+2,none⟩) h.lt).trans h.c2,
  (hb.frozen (p:=⟨g,o,none⟩) h.lt).trans h.f0,(hb.frozen (p:=⟨g,o+1,none⟩) h.lt).trans h.f1,(hb.frozen (p:=⟨g,o+2,none⟩) h.lt).trans h.f2⟩
theorem Met.but{w w':World}{g o k:Nat}{s l m:Int}(h:Met w g o s l m)(hb:w.grownBy w' (some k))(hk:g≠k):Met w' g o s l m:=
 have hne:∀ p:Addr,p.block=g->w'.heap[p.block]?=w.heap[p.block]?:=fun p hp=>by rw[hp];exact hb.block g h.lt (fun e=>hk (Option.some.inj e))
 ⟨hb.cell h.c0 (by simpa using hk),hb.cell h.c1 (by simpa using hk),hb.cell h.c2 (by simpa using hk),(World.frozen?_of_block (hne _ rfl)).trans h.f0,(World.frozen?_of_block (hne _ rfl)).trans h.f1,(World.frozen?_of_block (hne _ rfl)).trans h.f2⟩
theorem Touch.after{g o n:Nat}{a b c:World}(h:Below a.heap.size a b)(k:Touch g o n b c)(hg:g<a.heap.size):Touch g o n a c:=
 ⟨az (grown_below (bK a (some g)) h) k.grown,fun j hj=>(k.cell j hj).trans (h.cell (p:=⟨g,j,none⟩) hg),fun j=>(k.frozen j).trans (h.frozen (p:=⟨g,j,none⟩) hg)⟩
theorem Touch.then{g o n:Nat}{a b c:World}(h:Touch g o n a b)(k:Below b.heap.size b c)(hg:g<b.heap.size):Touch g o n a c:=
 ⟨grown_below h.grown k,fun j hj=>(k.cell (p:=⟨g,j,none⟩) hg).trans (h.cell j hj),fun j=>(k.frozen (p:=⟨g,j,none⟩) hg).trans (h.frozen j)⟩
theorem Touch.fresh{g o n G:Nat}{a b c:World}(h:Touch g o n a b)(k:b.grownBy c (some G))(hg:g<a.heap.size)(hG:a.heap.size<=G):Touch g o n a c:=by
 have hb:c.heap[g]?=b.heap[g]?:=k.block g (Nat.lt_of_lt_of_le hg h.grown.size) (by simp;omega)
 exact⟨⟨k.os.trans h.grown.os,k.tape.trans h.grown.tape,k.output.trans h.grown.output,Nat.le_trans h.grown.size k.size,fun j hj hn=>(k.block j (Nat.lt_of_lt_of_le hj h.grown.size) (by simp;omega)).trans (h.grown.block j hj hn)⟩,
  fun j hj=>(World.cell?_of_block (a:=⟨g,j,none⟩) hb).trans (h.cell j hj),fun j=>(World.frozen?_of_block (a:=⟨g,j,none⟩) hb).trans (h.frozen j)⟩
theorem Touch.keep{w w':World}{g o:Nat}{s l m:Int}(hM:Met w g o s l m)(hT:Touch g o 3 w w'){b j:Nat}{v:Value}(h:w.cell? ⟨b,j,none⟩=some v)(hv:∀ x,v≠ .int .i64 x):w'.cell? ⟨b,j,none⟩=some v:=by
 by_cases e:b=g
 ·subst e
  by_cases hj:j<o\/o+3<=j
  ·exact(hT.cell j hj).trans h
  ·have:j=o\/j=o+1\/j=o+2:=by omega
   rcases this with rfl|rfl|rfl
   ·rw[hM.c0]at h;injection h with h;exact absurd h.symm (hv _)
   ·rw[hM.c1]at h;injection h with h;exact absurd h.symm (hv _)
   ·rw[hM.c2]at h;injection h with h;exact absurd h.symm (hv _)
 ·exact hT.grown.cell h (by simpa using e)
set_option maxHeartbeats 800000 in
theorem dn{w:World}{g o:Nat}{s l m:Int}(n t:Int)(h:Met w g o s l m)(_h1: -9223372036854775808<=t)(_h2:t<=9223372036854775807)(ht:t=s+max n 0):
  Calls Tryz.prog 89 #[.pointer (some ⟨g,o,none⟩),.int .i64 n] w fun e w'=>e=.returned (.int .i64 t)/\Met w' g o t l m/\Touch g o 3 w w':=by
 have H:=hide h
 have HT:=hide ht
 obtain⟨c0,c1,c2,f0,f1,f2⟩:=h
 by_cases hn:n<0
 ·have e:t=s:=by omega
  subst e
  clear ht
  go_enter Tryz.func89,Tryz.ntmps89
  go_wp2
  go_ret
  exact⟨rfl,(ae H).set0 t,Touch.set g o 3 0 w _ (by omega)⟩
 ·have e:s+n=t:=by omega
  clear ht
  go_enter Tryz.func89,Tryz.ntmps89
  go_wp2
  go_ret
  exact⟨rfl,(ae H).set0 _,Touch.set g o 3 0 w _ (by omega)⟩
set_option maxHeartbeats 800000 in
theorem dh{w:World}{g o:Nat}{s l m:Int}(k d:Int)(h:Met w g o s l m)(hk:k=l+1)(hd:d=max m k)(h1: -9223372036854775808<=k)(h2:k<=9223372036854775807):
  Calls Tryz.prog 122 #[.pointer (some ⟨g,o,none⟩)] w fun e w'=>e=.returned (.int .i64 k)/\Met w' g o s k d/\Touch g o 3 w w':=by
 have H:=hide h
 obtain⟨c0,c1,c2,f0,f1,f2⟩:=h
 have e:l+1=k:=hk.symm
 have HE:Hid ((if m<k then k else m)=d):=by show _=_;rw[hd];split<;>omega
 clear hk hd
 go_enter Tryz.func122,Tryz.ntmps122
 go_wp2
 go_region
 rw[ae HE]
 go_wp2
 go_ret
 exact⟨rfl,(((ae H).set1 k).set2 d).drewN 1,(((Touch.set g o 3 1 w _ (by omega)).trans (Touch.set g o 3 2 _ _ (by omega))).drew)⟩
end Go.Proofs.YtgcnhfgpflncaaaGreatDoor
/- Leave of a meter,as a deferred call. -/
namespace Go.Proofs.YtgcnhfgpflncaaaGreatDoor
open Go.RowKit
set_option maxHeartbeats 800000 in
theorem bm{w:World}{g o:Nat}{s l m:Int}(k:Int)(u:FrameMode)(h:Met w g o s l m)(hk:k=max (l-1) 0)(h1:0<=l)(h2:l<=9223372036854775807):
  CallsD Tryz.prog 123 #[.pointer (some ⟨g,o,none⟩)] u w fun e u' w'=>u'=u/\(e=.returned (.int .i64 k)/\Met w' g o s k m/\Touch g o 3 w w'):=by
 have H:=hide h
 obtain⟨c0,c1,c2,f0,f1,f2⟩:=h
 by_cases hn:l-1<0
 ·have e:k=0:=by omega
  subst e
  clear hk
  go_enter_d Tryz.func123,Tryz.ntmps123
  go_wp2
  go_ret
  exact⟨rfl,(ae H).set1 0,Touch.set g o 3 1 w _ (by omega)⟩
 ·have e:l-1=k:=by omega
  clear hk
  go_enter_d Tryz.func123,Tryz.ntmps123
  go_wp2
  go_ret
  exact⟨rfl,(ae H).set1 _,Touch.set g o 3 1 w _ (by omega)⟩
end Go.Proofs.YtgcnhfgpflncaaaGreatDoor
/- The example of the document,and the meter's laws:what a call's own meter is. -/
namespace Go.Proofs.YtgcnhfgpflncaaaGreatDoor
open Go.RowKit
theorem tj(w:World)(t:Nat):Met (w.alloc (.cells #[.int .i64 0,.int .i64 0,.int .i64 0] t)) w.heap.size 0 0 0 0:=by
 have hk:(w.alloc (.cells #[.int .i64 0,.int .i64 0,.int .i64 0] t)).heap[w.heap.size]?=some (.cells #[.int .i64 0,.int .i64 0,.int .i64 0] t (0,0)):=heap_alloc_new w _
 exact⟨cell_of_row _ w.heap.size 0 _ t (0,0) hk,cell_of_row _ w.heap.size 1 _ t (0,0) hk,cell_of_row _ w.heap.size 2 _ t (0,0) hk,frozen_of_row _ w.heap.size 0 _ _ hk,frozen_of_row _ w.heap.size 1 _ _ hk,frozen_of_row _ w.heap.size 2 _ _ hk⟩
end Go.Proofs.YtgcnhfgpflncaaaGreatDoor
