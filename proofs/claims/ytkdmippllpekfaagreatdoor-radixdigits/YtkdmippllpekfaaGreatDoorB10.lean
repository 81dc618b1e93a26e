import Derived.StillTailTactics
import Derived.Test.YtkdmippllpekfaaGreatDoorB9
namespace Go.Proofs.YtkdmippllpekfaaGreatDoor
set_option maxRecDepth 100000
set_option maxHeartbeats 6400000
variable{hi lo n:Int}{g m:Nat}{w:World}
section
open Go.RowKit
structure bJ where
 b:Int
 t:Int
 n:Int
 d:Int
 r:Int
 l:Int
 x:Int
 p:Int
 k:Int
 s:Int
 e:Int
def bJ.val(T:bJ):Value:=.agg #[.int .i64 T.b,.int .i64 T.t,.int .i64 T.n,.int .i64 T.d,.int .i64 T.r,.int .i64 T.l,.int .i64 T.x,.int .i64 T.p,.int .i64 T.k,.int .i64 T.s,.int .i64 T.e]
def cl(n lo hi:Int):Int:=min (max n lo) hi
def bJ.bD(T:bJ):bJ:=
 ⟨cl T.b 4 64,cl T.t 12 8192,cl T.n 64 16384,cl T.d 4 1024,cl T.r 4 4096,cl T.l 2 1024,cl T.x 2 1024,cl T.p 4 256,cl T.k 4 1024,cl T.s 2 1024,cl T.e 2 256⟩
theorem vR(h:lo<=hi):lo<=cl n lo hi:=by unfold cl;omega
theorem At:cl n lo hi<=hi:=by unfold cl;omega
theorem adG(h:lo<=hi):cl (cl n lo hi) lo hi=cl n lo hi:=by unfold cl;omega
theorem bJ.tj(T:bJ):T.bD.bD=T.bD:=by simp[bJ.bD,adG]
theorem LH(n lo hi:Int)(w:World):Calls Tryz.prog 200 #[.int .i64 n,.int .i64 lo,.int .i64 hi] w fun e w'=>e=.returned (.int .i64 (cl n lo hi))/\w'=w:=by
 go_enter Tryz.func200,Tryz.ntmps200;go_wp2
 all_goals
  go_ret;exact⟨bY (by unfold cl;omega),rfl⟩
theorem Oi{P:Program}{id:Nat}{Q:Exit->Act->World->Prop}{a:Act}{l:List Oper}(n:Nat)(hm:P.follows .mixedOrders=true)(hB:Region.lexTailB .any l.toArray n=true)(h:wpStill P l.toArray w.drew (fun a'=>wpList P l.toArray Q (l.drop n) a' w.drew) (l.take n) a):(Code.region id l.toArray true).wp P Q a w:=wp_region_still_tail n hm hB h
theorem EB(T:bJ)(w:World):Calls Tryz.prog 172 #[T.val] w fun e w'=>e=.returned T.bD.val/\Below w.heap.size w w':=by
 unfold bJ.val;go_enter Tryz.func172,Tryz.ntmps172;go_wp2;refine Oi 33 (by kernel_rfl) (by kernel_rfl) ?_;simp only[List.take_succ_cons,List.take_zero,List.drop_succ_cons,List.drop_zero]
 repeat (first|still_step|still_call (LH _ _ _ _))
 refine wpStill_nil ?_;go_wp2;refine dR (v:=.agg #[.int .i64 (cl T.b 4 64),.int .i64 (cl T.t 12 8192),.int .i64 (cl T.n 64 16384),.int .i64 (cl T.d 4 1024),.int .i64 (cl T.r 4 4096),.int .i64 (cl T.l 2 1024),.int .i64 (cl T.x 2 1024),.int .i64 (cl T.p 4 256),.int .i64 (cl T.k 4 1024),.int .i64 (cl T.s 2 1024),.int .i64 (cl T.e 2 256)]) (by simp[results,Tryz.results172,go_sem]) rfl ⟨rfl,?_⟩;exact(((aj _ _).alloc (af _) _).alloc (by simp) _).drew
structure wW(w:World)(g:Nat)(T:bJ):Prop where
 row:w.heap[g]?=some (.cells #[.int .i64 0,.int .i64 0,.int .i64 0,.int .i64 T.bD.b,.int .i64 T.bD.t,.int .i64 T.bD.n,.int .i64 T.bD.d,.int .i64 T.bD.r,.int .i64 T.bD.l,.int .i64 T.bD.x,.int .i64 T.bD.p,.int .i64 T.bD.k,.int .i64 T.bD.s,.int .i64 T.bD.e] 139 (0,0))
theorem wW.lt{T:bJ}(h:wW w g T):g<w.heap.size:=by obtain⟨i,_⟩:=ah.1 h.row;exact i
theorem wW.next{w':World}{T:bJ}(h:wW w g T)(b:Below w.heap.size w w'):wW w' g T:=⟨(b.block g h.lt).trans h.row⟩
theorem wW.met{T:bJ}(h:wW w g T):gQ w g 0 0 0 0:=
 ⟨ay _ g 0 _ _ _ h.row,ay _ g 1 _ _ _ h.row,ay _ g 2 _ _ _ h.row,bZ _ g 0 _ _ h.row,bZ _ g 1 _ _ h.row,bZ _ g 2 _ _ h.row⟩
theorem aai(T:bJ)(w:World):Calls Tryz.prog 201 #[T.val] w fun e w'=>∃g,e=.returned (.pointer (some ⟨g,0,none⟩))/\wW w' g T/\w.heap.size<=g/\Below w.heap.size w w':=by
 have sA:=ag (fun o=>(aj w.heap.size w).alloc (af _) o);have CC:=ag (fun w=>EB T w);have TN:Hid (∀w1:World,wW (w1.alloc (.cells #[.int .i64 0,.int .i64 0,.int .i64 0,.int .i64 T.bD.b,.int .i64 T.bD.t,.int .i64 T.bD.n,.int .i64 T.bD.d,.int .i64 T.bD.r,.int .i64 T.bD.l,.int .i64 T.bD.x,.int .i64 T.bD.p,.int .i64 T.bD.k,.int .i64 T.bD.s,.int .i64 T.bD.e] 139)) w1.heap.size T):=fun w1=>⟨aI w1 _⟩;unfold bJ.val at CC ⊢;generalize T.bD.b=t0 at CC TN;generalize T.bD.t=t1 at CC TN;generalize T.bD.n=t2 at CC TN;generalize T.bD.d=t3 at CC TN;generalize T.bD.r=t4 at CC TN;generalize T.bD.l=t5 at CC TN;generalize T.bD.x=t6 at CC TN;generalize T.bD.p=t7 at CC TN;generalize T.bD.k=t8 at CC TN;generalize T.bD.s=t9 at CC TN;generalize T.bD.e=t10 at CC TN;go_enter Tryz.func201,Tryz.ntmps201
 go_wp2_with (go_at_call 172;refine(ae CC _).mono ?_;rintro e w1 ⟨rfl,b1⟩)
 go_ret;have b0:=aJ (ae sA _) b1;exact⟨_,rfl,ae TN _,b0.size,b0.alloc b0.size _⟩
theorem Lz(n:Int)(w:World):Calls Tryz.prog 170 #[.int .i64 n] w fun e w'=>e=.returned (.bool (decide (0<=n)&&decide (n<=16384)))/\w'=w:=by
 by_cases h1:0<=n<;>by_cases h2:n<=16384
 all_goals
  go_enter Tryz.func170,Tryz.ntmps170;go_wp2;go_ret;exact⟨by simp[*],rfl⟩
theorem zT(n:Int)(w:World)(h1:0<=n)(h2:n<=16384):Calls Tryz.prog 170 #[.int .i64 n] w fun e w'=>e=.returned (.bool true)/\w'=w:=
 (Lz n w).mono fun e w' ⟨a,b⟩=>⟨by rw[a];simp[h1,h2],b⟩
theorem S5(T:bJ)(B D N n m:Nat)(hb:T.b=(B:Int))(ht:T.t=(D:Int))(hn:T.n=(N:Int))(n1:n<=100000)(m1:m<=100000)(w:World):Calls Tryz.prog 171 #[T.val,.int .i64 (n:Int),.int .i64 (m:Int)] w fun e w'=>e=.returned (.int .i64 (rt B D N n m:Int))/\Below w.heap.size w w':=by
 unfold bJ.val;rw[hb,ht,hn];clear hb ht hn;unfold rt;have sA:=fun o=>(aj w.heap.size w).alloc (af _) o;by_cases h0:m=0
 ·rw[aW h0];go_enter sy,pY;go_wp2;go_ret;exact⟨rfl,sA _⟩
 rw[aV h0];by_cases h1:m<B
 ·rw[aW h1];go_enter sy,pY;go_wp2;go_ret;exact⟨rfl,sA _⟩
 rw[aV h1];by_cases h2:2*m<=n+1
 ·rw[aW h2];go_enter sy,pY;go_wp2;go_ret;exact⟨rfl,sA _⟩
 rw[aV h2];by_cases h3:m<D
 ·rw[aW h3];go_enter sy,pY;go_wp2;go_ret;exact⟨rfl,sA _⟩
 rw[aV h3];by_cases h4:N<=n+m
 ·rw[aW h4];go_enter sy,pY;go_wp2;go_ret;exact⟨rfl,sA _⟩
 rw[aV h4];by_cases h5:2*((n+2)/3)<m
 ·rw[aW h5];go_enter sy,pY;go_wp2;go_ret;exact⟨rfl,sA _⟩
 rw[aV h5];go_enter sy,pY;go_wp2;go_ret;exact⟨rfl,sA _⟩
def bJ.B(T:bJ):Nat:=T.bD.b.toNat
def bJ.D(T:bJ):Nat:=T.bD.t.toNat
def bJ.N(T:bJ):Nat:=T.bD.n.toNat
theorem bJ.hB(T:bJ):T.bD.b=(T.B:Int):=by have:=vR (n:=T.b) (lo:=4) (hi:=64) (by omega);unfold bJ.B;show cl _ _ _=_;have e:T.bD.b=cl T.b 4 64:=rfl;omega
theorem bJ.hD(T:bJ):T.bD.t=(T.D:Int):=by have:=vR (n:=T.t) (lo:=12) (hi:=8192) (by omega);unfold bJ.D;show cl _ _ _=_;have e:T.bD.t=cl T.t 12 8192:=rfl;omega
theorem bJ.hN(T:bJ):T.bD.n=(T.N:Int):=by have:=vR (n:=T.n) (lo:=64) (hi:=16384) (by omega);unfold bJ.N;show cl _ _ _=_;have e:T.bD.n=cl T.n 64 16384:=rfl;omega
theorem bJ.MP(T:bJ):AP T.B T.D T.N:=by have a1:=T.hB;have a2:=T.hD;have a3:=T.hN;have e1:T.bD.b=cl T.b 4 64:=rfl;have e2:T.bD.t=cl T.t 12 8192:=rfl;have e3:T.bD.n=cl T.n 64 16384:=rfl;have b1:=vR (n:=T.b) (lo:=4) (hi:=64) (by omega);have b2:=At (n:=T.b) (lo:=4) (hi:=64);have b3:=vR (n:=T.t) (lo:=12) (hi:=8192) (by omega);have b4:=At (n:=T.t) (lo:=12) (hi:=8192);have b5:=vR (n:=T.n) (lo:=64) (hi:=16384) (by omega);have b6:=At (n:=T.n) (lo:=64) (hi:=16384);exact⟨by omega,by omega,by omega,by omega,by omega,by omega⟩
theorem bJ.Zo(T:bJ):T.bD.B=T.B:=by unfold bJ.B;rw[T.tj]
theorem bJ.Zt(T:bJ):T.bD.D=T.D:=by unfold bJ.D;rw[T.tj]
theorem bJ.ZA(T:bJ):T.bD.N=T.N:=by unfold bJ.N;rw[T.tj]
def Ed(T:bJ)(n m:Int):Int:=
 if 0<=n/\n<=16384/\0<=m/\m<=16384 then (rt T.B T.D T.N (max n m).toNat (min n m).toNat:Int) else 0
theorem K5(T:bJ)(n m:Int):Ed T n m=Ed T m n:=by
 unfold Ed;rw[show max n m=max m n from by omega,show min n m=min m n from by omega];by_cases h:0<=n/\n<=16384/\0<=m/\m<=16384
 ·rw[aW h,aW (by omega)]
 ·rw[aV h,aV (by omega)]
theorem Hx(T:bJ){n:Nat}(hm:m<=n)(hn:n<=16384):Ed T (n:Int) (m:Int)=(rt T.B T.D T.N n m:Int):=by unfold Ed;rw[aW (by omega),show(max (n:Int) (m:Int)).toNat=n from by omega,show(min (n:Int) (m:Int)).toNat=m from by omega]
theorem aaC(T:bJ){m:Int}(h:¬(0<=n/\n<=16384/\0<=m/\m<=16384)):Ed T n m=0:=by unfold Ed;rw[aV h]
theorem S6(T:bJ)(n m:Int)(w:World)(h1:0<=m)(h2:m<=n)(h3:n<=16384):Calls Tryz.prog 171 #[T.bD.val,.int .i64 n,.int .i64 m] w fun e w'=>e=.returned (.int .i64 (Ed T n m))/\Below w.heap.size w w':=by
 obtain⟨m,rfl⟩:=dP h1;obtain⟨n,rfl⟩:=dP (show 0<=n by omega);rw[Hx T (by omega) (by omega)];exact S5 T.bD T.B T.D T.N n m T.hB T.hD T.hN (by omega) (by omega) w
def qB(T:bJ)(n m:Int):Int:=
 if 0<=n/\n<=16384/\0<=m/\m<=16384 then (lS T.B T.D T.N (max n m).toNat (min n m).toNat:Int) else 0
def sqT(T:bJ)(n:Int):Int:=if 0<=n/\n<=16384 then (qZ T.B T.D T.N n.toNat:Int) else 0
theorem MG(T:bJ)(n m:Int):qB T n m=qB T m n:=by
 unfold qB;rw[show max n m=max m n from by omega,show min n m=min m n from by omega];by_cases h:0<=n/\n<=16384/\0<=m/\m<=16384
 ·rw[aW h,aW (by omega)]
 ·rw[aV h,aV (by omega)]
theorem EE(T:bJ){n:Nat}(hm:m<=n)(hn:n<=16384):qB T (n:Int) (m:Int)=(lS T.B T.D T.N n m:Int):=by unfold qB;rw[aW (by omega),show(max (n:Int) (m:Int)).toNat=n from by omega,show(min (n:Int) (m:Int)).toNat=m from by omega]
theorem P8(T:bJ){n:Nat}(hn:n<=16384):sqT T (n:Int)=(qZ T.B T.D T.N n:Int):=by unfold sqT;rw[aW (by omega)];simp
end
section
open Go.RowKit
end
section
open Go.RowKit
theorem Om(T:bJ)(n m:Int)(w:World):Calls Tryz.prog 140 #[T.val,.int .i64 n,.int .i64 m] w fun e w'=>e=.returned (.int .i64 (Ed T n m))/\Below w.heap.size w w':=by
 have sA:=ag (fun o=>(aj w.heap.size w).alloc (af _) o);by_cases h:0<=n/\n<=16384/\0<=m/\m<=16384
 ·obtain⟨a1,a2,a3,a4⟩:=h;have CC:=ag (fun w=>EB T w);have RC:=ag (K5 T n m);have CR:=ag (fun n m h1 h2 h3 w=>S6 T n m w h1 h2 h3);obtain⟨V,hV⟩:∃V,V=T.bD.val:=⟨_,rfl⟩;rw[<-hV]at CC CR;clear hV;unfold bJ.val;by_cases hm:m<n
  all_goals
   go_enter Tryz.func140,Tryz.ntmps140
   go_wp2_with (first|(go_at_call 170;refine(zT _ _ (by omega) (by omega)).mono ?_;rintro e w' ⟨rfl,rfl⟩)|(go_at_call 172;refine(ae CC _).mono ?_;rintro e w1 ⟨rfl,b1⟩)|(go_at_call 171;refine(ae CR _ _ (by omega) (by omega) (by omega) _).mono ?_;rintro e w2 ⟨rfl,b2⟩))
  all_goals
   go_ret;exact⟨bY (by first|rfl|exact(ae RC).symm|(obtain rfl:m=n:=(by omega);rfl)),aJ (aJ (ae sA _) b1) b2⟩
 ·rw[aaC T h];unfold bJ.val;by_cases a1:0<=n<;>by_cases a2:n<=16384<;>by_cases a3:0<=m<;>by_cases a4:m<=16384
  all_goals first|(exfalso;omega)|skip
  all_goals
   go_enter Tryz.func140,Tryz.ntmps140;go_wp2;go_ret;exact⟨rfl,ae sA _⟩
end
end Go.Proofs.YtkdmippllpekfaaGreatDoor
