/- The table: its eleven entries; Clamp, of package table and of the document. -/
import Derived.Test.YtgcnhfgpflncaaaGreatDoorB7
import Derived.Test.YtgcnhfgpflncaaaGreatDoorB1
import Derived.StillTailTactics
import Derived.Deep.QuietTactic
import Derived.BigQuiet
import Derived.WalkSmall
import Derived.RegionTactic
import Derived.Test.YtgcnhfgpflncaaaGreatDoorB9
namespace Go.Proofs.YtgcnhfgpflncaaaGreatDoor
open Go.RowKit
structure Tab where
 b:Int
 t:Int
 n:Int
 d:Int
 r:Int
 l:Int
 x:Int
 p:Int
 k:Int
 s:Int
 e:Int
def Tab.val(T:Tab):Value:=.agg #[.int .i64 T.b,.int .i64 T.t,.int .i64 T.n,.int .i64 T.d,.int .i64 T.r,.int .i64 T.l,.int .i64 T.x,.int .i64 T.p,.int .i64 T.k,.int .i64 T.s,.int .i64 T.e]
def cl(n lo hi:Int):Int:=min (max n lo) hi
def Tab.clamp(T:Tab):Tab:=
 ⟨cl T.b 4 64,cl T.t 12 8192,cl T.n 64 16384,cl T.d 4 1024,cl T.r 4 4096,cl T.l 2 1024,cl T.x 2 1024,cl T.p 4 256,cl T.k 4 1024,cl T.s 2 1024,cl T.e 2 256⟩
theorem mL{n lo hi:Int}(h:lo<=hi):lo<=cl n lo hi:=by unfold cl;omega
theorem sR{n lo hi:Int}:cl n lo hi<=hi:=by unfold cl;omega
theorem Pj{n lo hi:Int}(h:lo<=hi):cl (cl n lo hi) lo hi=cl n lo hi:=by unfold cl;omega
theorem Tab.clamp_clamp(T:Tab):T.clamp.clamp=T.clamp:=by simp[Tab.clamp,Pj]
set_option maxHeartbeats 400000 in
theorem xU(n lo hi:Int)(w:World):
  Calls Tryz.prog 184 #[.int .i64 n,.int .i64 lo,.int .i64 hi] w fun e w'=>e=.returned (.int .i64 (cl n lo hi))/\w'=w:=by
 go_enter Tryz.func184,Tryz.ntmps184
 go_wp2
 all_goals
  go_ret
  exact⟨ax (by unfold cl;omega),rfl⟩
theorem zr{P:Program}{id:Nat}{Q:Exit->Act->World->Prop}{a:Act}{w:World}{l:List Oper}(n:Nat)(hm:P.follows .mixedOrders=true)(hB:Region.lexTailB .any l.toArray n=true)
  (h:wpStill P l.toArray w.drew (fun a'=>wpList P l.toArray Q (l.drop n) a' w.drew) (l.take n) a):(Code.region id l.toArray true).wp P Q a w:=wp_region_still_tail n hm hB h
set_option maxRecDepth 100000 in
set_option maxHeartbeats 6400000 in
theorem q9(T:Tab)(w:World):
  Calls Tryz.prog 158 #[T.val] w fun e w'=>e=.returned T.clamp.val/\Below w.heap.size w w':=by
 unfold Tab.val
 go_enter Tryz.func158,Tryz.ntmps158
 go_wp2
 refine zr 33 (by kernel_rfl) (by kernel_rfl) ?_
 simp only[List.take_succ_cons,List.take_zero,List.drop_succ_cons,List.drop_zero]
 repeat (first|still_step|still_call (xU _ _ _ _))
 refine wpStill_nil ?_
 go_wp2
 refine bodyPost_ret (v:=.agg #[.int .i64 (cl T.b 4 64),.int .i64 (cl T.t 12 8192),.int .i64 (cl T.n 64 16384),.int .i64 (cl T.d 4 1024),.int .i64 (cl T.r 4 4096),.int .i64 (cl T.l 2 1024),.int .i64 (cl T.x 2 1024),.int .i64 (cl T.p 4 256),.int .i64 (cl T.k 4 1024),.int .i64 (cl T.s 2 1024),.int .i64 (cl T.e 2 256)]) (by simp[results,Tryz.results158,go_sem]) rfl ⟨rfl,?_⟩
 exact(((Below.refl _ _).alloc (Nat.le_refl _) _).alloc (by simp) _).drew
end Go.Proofs.YtgcnhfgpflncaaaGreatDoor
/- A kO:New. -/
namespace Go.Proofs.YtgcnhfgpflncaaaGreatDoor
open Go.RowKit
structure kO(w:World)(g:Nat)(T:Tab):Prop where
 row:w.heap[g]?=some (.cells #[.int .i64 0,.int .i64 0,.int .i64 0,.int .i64 T.clamp.b,.int .i64 T.clamp.t,.int .i64 T.clamp.n,.int .i64 T.clamp.d,.int .i64 T.clamp.r,.int .i64 T.clamp.l,.int .i64 T.clamp.x,.int .i64 T.clamp.p,.int .i64 T.clamp.k,.int .i64 T.clamp.s,.int .i64 T.clamp.e] 111 (0,0))
theorem kO.lt{w:World}{g:Nat}{T:Tab}(h:kO w g T):g<w.heap.size:=by
 obtain⟨i,_⟩:=Array.getElem?_eq_some_iff.1 h.row;exact i
theorem kO.next{w w':World}{g:Nat}{T:Tab}(h:kO w g T)(b:Below w.heap.size w w'):kO w' g T:=⟨(b.block g h.lt).trans h.row⟩
theorem kO.met{w:World}{g:Nat}{T:Tab}(h:kO w g T):Met w g 0 0 0 0:=
 ⟨cell_of_row _ g 0 _ _ _ h.row,cell_of_row _ g 1 _ _ _ h.row,cell_of_row _ g 2 _ _ _ h.row,frozen_of_row _ g 0 _ _ h.row,frozen_of_row _ g 1 _ _ h.row,frozen_of_row _ g 2 _ _ h.row⟩
set_option maxHeartbeats 1600000 in
theorem new_any(T:Tab)(w:World):
  Calls Tryz.prog 202 #[T.val] w fun e w'=>∃ g,e=.returned (.pointer (some ⟨g,0,none⟩))/\kO w' g T/\w.heap.size<=g/\Below w.heap.size w w':=by
 have bel:=hide (fun o=>(Below.refl w.heap.size w).alloc (Nat.le_refl _) o)
 have CC:=hide (fun w=>q9 T w)
 have TN:Hid (∀ w1:World,kO (w1.alloc (.cells #[.int .i64 0,.int .i64 0,.int .i64 0,.int .i64 T.clamp.b,.int .i64 T.clamp.t,.int .i64 T.clamp.n,.int .i64 T.clamp.d,.int .i64 T.clamp.r,.int .i64 T.clamp.l,.int .i64 T.clamp.x,.int .i64 T.clamp.p,.int .i64 T.clamp.k,.int .i64 T.clamp.s,.int .i64 T.clamp.e] 111)) w1.heap.size T):=fun w1=>⟨heap_alloc_new w1 _⟩
 unfold Tab.val at CC ⊢
 generalize T.clamp.b=t0 at CC TN
 generalize T.clamp.t=t1 at CC TN
 generalize T.clamp.n=t2 at CC TN
 generalize T.clamp.d=t3 at CC TN
 generalize T.clamp.r=t4 at CC TN
 generalize T.clamp.l=t5 at CC TN
 generalize T.clamp.x=t6 at CC TN
 generalize T.clamp.p=t7 at CC TN
 generalize T.clamp.k=t8 at CC TN
 generalize T.clamp.s=t9 at CC TN
 generalize T.clamp.e=t10 at CC TN
 go_enter Tryz.func202,Tryz.ntmps202
 go_wp2_with (go_at_call 158;refine(ae CC _).mono ?_;rintro e w1 ⟨rfl,b1⟩)
 go_ret
 have b0:=ag (ae bel _) b1
 exact⟨_,rfl,ae TN _,b0.size,b0.alloc b0.size _⟩
end Go.Proofs.YtgcnhfgpflncaaaGreatDoor
/- Which way a product goes:package table's Route,and the document's. -/
namespace Go.Proofs.YtgcnhfgpflncaaaGreatDoor
open Go.RowKit
set_option maxHeartbeats 400000 in
theorem xP(n:Int)(w:World):
  Calls Tryz.prog 156 #[.int .i64 n] w fun e w'=>e=.returned (.bool (decide (0<=n)&&decide (n<=16384)))/\w'=w:=by
 by_cases h1:0<=n<;>by_cases h2:n<=16384
 all_goals
  go_enter Tryz.func156,Tryz.ntmps156
  go_wp2
  go_ret
  exact⟨by simp[*],rfl⟩
theorem nO(n:Int)(w:World)(h1:0<=n)(h2:n<=16384):Calls Tryz.prog 156 #[.int .i64 n] w fun e w'=>e=.returned (.bool true)/\w'=w:=
 (xP n w).mono fun e w' ⟨a,b⟩=>⟨by rw[a];simp[h1,h2],b⟩
set_option maxHeartbeats 1600000 in
theorem Eg(T:Tab)(B D N n m:Nat)(hb:T.b=(B:Int))(ht:T.t=(D:Int))(hn:T.n=(N:Int))(n1:n<=100000)(m1:m<=100000)(w:World):
  Calls Tryz.prog 157 #[T.val,.int .i64 (n:Int),.int .i64 (m:Int)] w fun e w'=>e=.returned (.int .i64 (rt B D N n m:Int))/\Below w.heap.size w w':=by
 unfold Tab.val
 rw[hb,ht,hn]
 clear hb ht hn
 unfold rt
 have bel:=fun o=>(Below.refl w.heap.size w).alloc (Nat.le_refl _) o
 by_cases h0:m=0
 ·rw[if_pos h0]
  go_enter Tryz.func157,Tryz.ntmps157
  go_wp2
  go_ret
  exact⟨rfl,bel _⟩
 rw[if_neg h0]
 by_cases h1:m<B
 ·rw[if_pos h1]
  go_enter Tryz.func157,Tryz.ntmps157
  go_wp2
  go_ret
  exact⟨rfl,bel _⟩
 rw[if_neg h1]
 by_cases h2:2*m<=n+1
 ·rw[if_pos h2]
  go_enter Tryz.func157,Tryz.ntmps157
  go_wp2
  go_ret
  exact⟨rfl,bel _⟩
 rw[if_neg h2]
 by_cases h3:m<D
 ·rw[if_pos h3]
  go_enter Tryz.func157,Tryz.ntmps157
  go_wp2
  go_ret
  exact⟨rfl,bel _⟩
 rw[if_neg h3]
 by_cases h4:N<=n+m
 ·rw[if_pos h4]
  go_enter Tryz.func157,Tryz.ntmps157
  go_wp2
  go_ret
  exact⟨rfl,bel _⟩
 rw[if_neg h4]
 by_cases h5:2*((n+2)/3)<m
 ·rw[if_pos h5]
  go_enter Tryz.func157,Tryz.ntmps157
  go_wp2
  go_ret
  exact⟨rfl,bel _⟩
 rw[if_neg h5]
 go_enter Tryz.func157,Tryz.ntmps157
 go_wp2
 go_ret
 exact⟨rfl,bel _⟩
def Tab.B(T:Tab):Nat:=T.clamp.b.toNat
def Tab.D(T:Tab):Nat:=T.clamp.t.toNat
def Tab.N(T:Tab):Nat:=T.clamp.n.toNat
theorem Tab.hB(T:Tab):T.clamp.b=(T.B:Int):=by have:=mL (n:=T.b) (lo:=4) (hi:=64) (by omega);unfold Tab.B;show cl _ _ _=_;have e:T.clamp.b=cl T.b 4 64:=rfl;omega
theorem Tab.hD(T:Tab):T.clamp.t=(T.D:Int):=by have:=mL (n:=T.t) (lo:=12) (hi:=8192) (by omega);unfold Tab.D;show cl _ _ _=_;have e:T.clamp.t=cl T.t 12 8192:=rfl;omega
theorem Tab.hN(T:Tab):T.clamp.n=(T.N:Int):=by have:=mL (n:=T.n) (lo:=64) (hi:=16384) (by omega);unfold Tab.N;show cl _ _ _=_;have e:T.clamp.n=cl T.n 64 16384:=rfl;omega
theorem Tab.ent(T:Tab):oG T.B T.D T.N:=by
 have a1:=T.hB;have a2:=T.hD;have a3:=T.hN
 have e1:T.clamp.b=cl T.b 4 64:=rfl
 have e2:T.clamp.t=cl T.t 12 8192:=rfl
 have e3:T.clamp.n=cl T.n 64 16384:=rfl
 have b1:=mL (n:=T.b) (lo:=4) (hi:=64) (by omega)
 have b2:=sR (n:=T.b) (lo:=4) (hi:=64)
 have b3:=mL (n:=T.t) (lo:=12) (hi:=8192) (by omega)
 have b4:=sR (n:=T.t) (lo:=12) (hi:=8192)
 have b5:=mL (n:=T.n) (lo:=64) (hi:=16384) (by omega)
 have b6:=sR (n:=T.n) (lo:=64) (hi:=16384)
 exact⟨by omega,by omega,by omega,by omega,by omega,by omega⟩
theorem Tab.B_clamp(T:Tab):T.clamp.B=T.B:=by unfold Tab.B;rw[T.clamp_clamp]
theorem Tab.D_clamp(T:Tab):T.clamp.D=T.D:=by unfold Tab.D;rw[T.clamp_clamp]
theorem Tab.N_clamp(T:Tab):T.clamp.N=T.N:=by unfold Tab.N;rw[T.clamp_clamp]
def qM(T:Tab)(n m:Int):Int:=
 if 0<=n/\n<=16384/\0<=m/\m<=16384 then (rt T.B T.D T.N (max n m).toNat (min n m).toNat:Int) else 0
theorem xh(T:Tab)(n m:Int):qM T n m=qM T m n:=by
 unfold qM
 rw[show max n m=max m n from by omega,show min n m=min m n from by omega]
 by_cases h:0<=n/\n<=16384/\0<=m/\m<=16384
 ·rw[if_pos h,if_pos (by omega)]
 ·rw[if_neg h,if_neg (by omega)]
theorem tP(T:Tab){n m:Nat}(hm:m<=n)(hn:n<=16384):qM T (n:Int) (m:Int)=(rt T.B T.D T.N n m:Int):=by
 unfold qM
 rw[if_pos (by omega),show(max (n:Int) (m:Int)).toNat=n from by omega,show(min (n:Int) (m:Int)).toNat=m from by omega]
theorem LK(T:Tab){n m:Int}(h:¬(0<=n/\n<=16384/\0<=m/\m<=16384)):qM T n m=0:=by unfold qM;rw[if_neg h]
theorem Eh(T:Tab)(n m:Int)(w:World)(h1:0<=m)(h2:m<=n)(h3:n<=16384):
  Calls Tryz.prog 157 #[T.clamp.val,.int .i64 n,.int .i64 m] w fun e w'=>e=.returned (.int .i64 (qM T n m))/\Below w.heap.size w w':=by
 obtain⟨m,rfl⟩:=Int.eq_ofNat_of_zero_le h1
 obtain⟨n,rfl⟩:=Int.eq_ofNat_of_zero_le (show 0<=n by omega)
 rw[tP T (by omega) (by omega)]
 exact Eg T.clamp T.B T.D T.N n m T.hB T.hD T.hN (by omega) (by omega) w
end Go.Proofs.YtgcnhfgpflncaaaGreatDoor
/- What products and squares cost,by any table:as numbers. -/
namespace Go.Proofs.YtgcnhfgpflncaaaGreatDoor
open Go.RowKit
def hU(T:Tab)(n m:Int):Int:=
 if 0<=n/\n<=16384/\0<=m/\m<=16384 then (eu T.B T.D T.N (max n m).toNat (min n m).toNat:Int) else 0
def OR(T:Tab)(n:Int):Int:=if 0<=n/\n<=16384 then (iL T.B T.D T.N n.toNat:Int) else 0
theorem yD(T:Tab)(n m:Int):hU T n m=hU T m n:=by
 unfold hU
 rw[show max n m=max m n from by omega,show min n m=min m n from by omega]
 by_cases h:0<=n/\n<=16384/\0<=m/\m<=16384
 ·rw[if_pos h,if_pos (by omega)]
 ·rw[if_neg h,if_neg (by omega)]
theorem re(T:Tab){n m:Nat}(hm:m<=n)(hn:n<=16384):hU T (n:Int) (m:Int)=(eu T.B T.D T.N n m:Int):=by
 unfold hU
 rw[if_pos (by omega),show(max (n:Int) (m:Int)).toNat=n from by omega,show(min (n:Int) (m:Int)).toNat=m from by omega]
theorem AH(T:Tab){n:Nat}(hn:n<=16384):OR T (n:Int)=(iL T.B T.D T.N n:Int):=by
 unfold OR
 rw[if_pos (by omega)];simp
end Go.Proofs.YtgcnhfgpflncaaaGreatDoor
/- Route of the document. -/
namespace Go.Proofs.YtgcnhfgpflncaaaGreatDoor
open Go.RowKit
end Go.Proofs.YtgcnhfgpflncaaaGreatDoor
/- Route of package table,and the document's. -/
namespace Go.Proofs.YtgcnhfgpflncaaaGreatDoor
open Go.RowKit
set_option maxHeartbeats 3200000 in
theorem zw(T:Tab)(n m:Int)(w:World):
  Calls Tryz.prog 127 #[T.val,.int .i64 n,.int .i64 m] w fun e w'=>e=.returned (.int .i64 (qM T n m))/\Below w.heap.size w w':=by
 have bel:=hide (fun o=>(Below.refl w.heap.size w).alloc (Nat.le_refl _) o)
 by_cases h:0<=n/\n<=16384/\0<=m/\m<=16384
 ·obtain⟨a1,a2,a3,a4⟩:=h
  have CC:=hide (fun w=>q9 T w)
  have RC:=hide (xh T n m)
  have CR:=hide (fun n m h1 h2 h3 w=>Eh T n m w h1 h2 h3)
  obtain⟨V,hV⟩:∃ V,V=T.clamp.val:=⟨_,rfl⟩
  rw[<-hV]at CC CR
  clear hV
  unfold Tab.val
  by_cases hm:m<n
  all_goals
   go_enter Tryz.func127,Tryz.ntmps127
   go_wp2_with (first|(go_at_call 156;refine(nO _ _ (by omega) (by omega)).mono ?_;rintro e w' ⟨rfl,rfl⟩)|(go_at_call 158;refine(ae CC _).mono ?_;rintro e w1 ⟨rfl,b1⟩)|(go_at_call 157;refine(ae CR _ _ (by omega) (by omega) (by omega) _).mono ?_;rintro e w2 ⟨rfl,b2⟩))
  all_goals
   go_ret
   exact⟨ax (by first|rfl|exact(ae RC).symm|(obtain rfl:m=n:=(by omega);rfl)),ag (ag (ae bel _) b1) b2⟩
 ·rw[LK T h]
  unfold Tab.val
  by_cases a1:0<=n<;>by_cases a2:n<=16384<;>by_cases a3:0<=m<;>by_cases a4:m<=16384
  all_goals first|(exfalso;omega)|skip
  all_goals
   go_enter Tryz.func127,Tryz.ntmps127
   go_wp2
   go_ret
   exact⟨rfl,ae bel _⟩
end Go.Proofs.YtgcnhfgpflncaaaGreatDoor
