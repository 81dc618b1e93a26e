import Derived.Test.YtkdmippllpekfaaGreatDoorB16
import Derived.Deep.RegionHeld3
import Derived.Test.YtkdmippllpekfaaGreatDoorB6
namespace Go.Proofs.YtkdmippllpekfaaGreatDoor
open Go.RowKit
structure zx(w:World)(g:Nat)(T:bJ):Prop where
 c0:w.cell? ⟨g,0,none⟩=some (.int .i64 T.b)
 c1:w.cell? ⟨g,1,none⟩=some (.int .i64 T.t)
 c2:w.cell? ⟨g,2,none⟩=some (.int .i64 T.n)
 c3:w.cell? ⟨g,3,none⟩=some (.int .i64 T.d)
 c4:w.cell? ⟨g,4,none⟩=some (.int .i64 T.r)
 c5:w.cell? ⟨g,5,none⟩=some (.int .i64 T.l)
 c6:w.cell? ⟨g,6,none⟩=some (.int .i64 T.x)
 c7:w.cell? ⟨g,7,none⟩=some (.int .i64 T.p)
 c8:w.cell? ⟨g,8,none⟩=some (.int .i64 T.k)
 c9:w.cell? ⟨g,9,none⟩=some (.int .i64 T.s)
 Vh:w.cell? ⟨g,10,none⟩=some (.int .i64 T.e)
theorem zx.next{w w':World}{g:Nat}{T:bJ}(h:zx w g T)(b:Below w.heap.size w w'):zx w' g T:=by have hg:g<w.heap.size:=aw _ _ h.c0;exact⟨(b.cell (p:=⟨g,0,none⟩) hg).trans h.c0,(b.cell (p:=⟨g,1,none⟩) hg).trans h.c1,(b.cell (p:=⟨g,2,none⟩) hg).trans h.c2,(b.cell (p:=⟨g,3,none⟩) hg).trans h.c3,(b.cell (p:=⟨g,4,none⟩) hg).trans h.c4,(b.cell (p:=⟨g,5,none⟩) hg).trans h.c5,(b.cell (p:=⟨g,6,none⟩) hg).trans h.c6,(b.cell (p:=⟨g,7,none⟩) hg).trans h.c7,(b.cell (p:=⟨g,8,none⟩) hg).trans h.c8,(b.cell (p:=⟨g,9,none⟩) hg).trans h.c9,(b.cell (p:=⟨g,10,none⟩) hg).trans h.Vh⟩
theorem jy(w:World)(T:bJ)(t:Nat):zx (w.alloc (.cells #[.int .i64 T.b,.int .i64 T.t,.int .i64 T.n,.int .i64 T.d,.int .i64 T.r,.int .i64 T.l,.int .i64 T.x,.int .i64 T.p,.int .i64 T.k,.int .i64 T.s,.int .i64 T.e] t)) w.heap.size T:=by have hk:=aI w (.cells #[.int .i64 T.b,.int .i64 T.t,.int .i64 T.n,.int .i64 T.d,.int .i64 T.r,.int .i64 T.l,.int .i64 T.x,.int .i64 T.p,.int .i64 T.k,.int .i64 T.s,.int .i64 T.e] t);exact⟨ay _ w.heap.size 0 _ t (0,0) hk,ay _ w.heap.size 1 _ t (0,0) hk,ay _ w.heap.size 2 _ t (0,0) hk,ay _ w.heap.size 3 _ t (0,0) hk,ay _ w.heap.size 4 _ t (0,0) hk,ay _ w.heap.size 5 _ t (0,0) hk,ay _ w.heap.size 6 _ t (0,0) hk,ay _ w.heap.size 7 _ t (0,0) hk,ay _ w.heap.size 8 _ t (0,0) hk,ay _ w.heap.size 9 _ t (0,0) hk,ay _ w.heap.size 10 _ t (0,0) hk⟩
end Go.Proofs.YtkdmippllpekfaaGreatDoor
