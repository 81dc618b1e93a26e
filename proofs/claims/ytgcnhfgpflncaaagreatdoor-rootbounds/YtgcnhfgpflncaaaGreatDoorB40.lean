/- What the laws on package mul call themselves: a row as a natural, how many words it has, how deep products may go. -/
import Derived.Test.YtgcnhfgpflncaaaGreatDoorB37
import Derived.Test.YtgcnhfgpflncaaaGreatDoorB39
import Derived.Test.YtgcnhfgpflncaaaGreatDoorB3
import Derived.Test.YtgcnhfgpflncaaaGreatDoorB14
import Derived.Test.YtgcnhfgpflncaaaGreatDoorB36
import Derived.Test.YtgcnhfgpflncaaaGreatDoorB33
namespace Go.Proofs.YtgcnhfgpflncaaaGreatDoor
open Go.RowKit
end Go.Proofs.YtgcnhfgpflncaaaGreatDoor
/- What two tables' products cost. -/
namespace Go.Proofs.YtgcnhfgpflncaaaGreatDoor
open Go.RowKit
theorem vf(T:Tab)(n m:Nat)(hn:n<=16384)(hm:m<=16384):0<=hU T (n:Int) (m:Int)/\hU T (n:Int) (m:Int)<=8*((n*m:Nat):Int):=by
 unfold hU
 rw[if_pos (by omega)]
 have h:=sT T.ent (max n m+1) (max n m) (min n m) (by omega) (by omega)
 have e1:(max (n:Int) (m:Int)).toNat=max n m:=by omega
 have e2:(min (n:Int) (m:Int)).toNat=min n m:=by omega
 have e3:max n m*min n m=n*m:=by
  by_cases hc:m<=n
  ·rw[Nat.max_eq_left hc,Nat.min_eq_right hc]
  ·rw[Nat.max_eq_right (by omega),Nat.min_eq_left (by omega),Nat.mul_comm]
 rw[e1,e2]
 rw[e3]at h
 generalize eu T.B T.D T.N (max n m) (min n m)=c at *
 generalize n*m=q at *
 omega
end Go.Proofs.YtgcnhfgpflncaaaGreatDoor
/- What times and square,products and squares of rows as they are,come to;what is handed to Kara and Toom. -/
namespace Go.Proofs.YtgcnhfgpflncaaaGreatDoor
open Go.RowKit
def dG(M:Nat):Prop:=∀(w:World) (gm gt gk ge g:Nat) (s l m:Int) (T:Tab) (ga gb:Option Addr) (b o cap la b' o' cap' lb:Nat) (xs ys:List Nat),
 aC w gm gt gk ge g s l m T->TB w->0<=s->s+35184372088832*((M:Int)+1)<=2305843009213693952->0<=l->l+(M:Int)<=100000->
 xs.length=la->Rep w ga b o cap xs->ao xs->ys.length=lb->Rep w gb b' o' cap' ys->ao ys->la<=M->lb<=M->
 Calls Tryz.prog 84 #[.pointer (some ⟨gm,0,none⟩),.slice ga la cap,.slice gb lb cap'] w fun e w'=>∃ r m',e=.returned r/\ah w.heap.size w' r (af xs*af ys)/\aC w' gm gt gk ge g (s+(eu T.B T.D T.N (max la lb) (min la lb):Nat)) l m' T/\m<=m'/\m'<=max m (l+(jq (max la lb):Nat))/\Out (·=g) w w'
def iP(M:Nat):Prop:=∀(w:World) (gm gt gk ge g:Nat) (s l m:Int) (T:Tab) (ga:Option Addr) (b o cap la:Nat) (xs:List Nat),
 aC w gm gt gk ge g s l m T->TB w->0<=s->s+35184372088832*((M:Int)+1)<=2305843009213693952->0<=l->l+(M:Int)<=100000->
 xs.length=la->Rep w ga b o cap xs->ao xs->la<=M->
 Calls Tryz.prog 76 #[.pointer (some ⟨gm,0,none⟩),.slice ga la cap] w fun e w'=>∃ r m',e=.returned r/\ah w.heap.size w' r (af xs*af xs)/\aC w' gm gt gk ge g (s+(iL T.B T.D T.N la:Nat)) l m' T/\m<=m'/\m'<=max m (l+(jq la:Nat))/\Out (·=g) w w'
theorem iT{B D N n m:Nat}(e:oG B D N)(hm:m<=n)(hn:n<=16384):eu B D N n m<=2147483648:=by
 have h:=sT e (n+1) n m (by omega) hm
 have:n*m<=16384*16384:=Nat.mul_le_mul hn (by omega)
 omega
theorem kA{B D N n:Nat}(e:oG B D N)(hn:n<=16384):iL B D N n<=2147483648:=by
 have h:=rV e n
 have:n*n<=16384*16384:=Nat.mul_le_mul hn hn
 omega
def acc(f:Nat->Nat):Nat->Nat
 |0=>0
 |i+1=>acc f i+f i
theorem oO{f:Nat->Nat}{c:Nat}(h:∀ i,f i<=c):∀ i,acc f i<=i*c
 |0=>by simp[acc]
 |i+1=>by
  have:=oO h i
  have:=h i
  rw[acc,Nat.succ_mul]
  omega
theorem aC.lts{w:World}{gm gt gk ge g:Nat}{s l m:Int}{T:Tab}(h:aC w gm gt gk ge g s l m T):gm<w.heap.size/\gt<w.heap.size/\gk<w.heap.size/\ge<w.heap.size/\g<w.heap.size:=
 ⟨h.lt,h.toom.lt,h.toom.kara.lt,World.block_lt_of_cell? _ _ h.eng.ptr,h.met.lt⟩
theorem aC.far{w W W':World}{gm gt gk ge g:Nat}{s l m s' l' m':Int}{T:Tab}(h:aC w gm gt gk ge g s l m T)(k:aC W gm gt gk ge g s' l' m' T)(o:Out (fun j=>w.heap.size<=j) W W'):aC W' gm gt gk ge g s' l' m' T:=by
 obtain⟨h0,h1,h2,h3,h4⟩:=h.lts
 exact k.out o (Nat.not_le.2 h0) (Nat.not_le.2 h1) (Nat.not_le.2 h2) (Nat.not_le.2 h3) (Nat.not_le.2 h4)
theorem TB.far{w W W':World}(h:TB w)(k:TB W)(o:Out (fun j=>w.heap.size<=j) W W'):TB W':=
 ⟨fun j hj=>o.cell (k.b j hj) (Nat.not_le.2 (World.block_lt_of_cell? _ _ (h.b j hj))),fun j hj=>o.cell (k.d j hj) (Nat.not_le.2 (World.block_lt_of_cell? _ _ (h.d j hj)))⟩
def yd(gm gt gk ge g:Nat)(s l m:Int)(T:Tab)(L:Nat)(f:Nat->Nat)(i:Nat)(W:World):Prop:=
 ∃ m1:Int,aC W gm gt gk ge g (s+(acc f i:Nat)) (l+1) m1 T/\max m (l+1)<=m1/\m1<=max m (l+1+(L:Nat))/\TB W
theorem yd.next{gm gt gk ge g:Nat}{s l m:Int}{T:Tab}{L:Nat}{f:Nat->Nat}{i:Nat}{W W':World}(h:yd gm gt gk ge g s l m T L f i W)(b:Below W.heap.size W W'):yd gm gt gk ge g s l m T L f i W':=by
 obtain⟨m1,h1,h2,h3,h4⟩:=h
 exact⟨m1,h1.next b,h2,h3,h4.next b⟩
theorem yd.far{w:World}{gm gt gk ge g:Nat}{s l m s0 l0 m0:Int}{T:Tab}{L:Nat}{f:Nat->Nat}{i:Nat}{W W':World}(hE:aC w gm gt gk ge g s0 l0 m0 T)(hT:TB w)(h:yd gm gt gk ge g s l m T L f i W)(o:Out (fun j=>w.heap.size<=j) W W'):yd gm gt gk ge g s l m T L f i W':=by
 obtain⟨m1,h1,h2,h3,h4⟩:=h
 exact⟨m1,hE.far h1 o,h2,h3,hT.far h4 o⟩
theorem yd.call{M:Nat}(IH:dG M){gm gt gk ge g:Nat}{s l m:Int}{T:Tab}{L:Nat}{f:Nat->Nat}{i:Nat}{W:World}(h:yd gm gt gk ge g s l m T L f i W)(hM:M<=16384)
  (h0:0<=s) (h1:s+35184372088832*((M:Int)+2)<=2305843009213693952) (h2:0<=l) (h3:l+1+(M:Int)<=100000) (ha:acc f i<=35184372088832) (hL:jq M<=L)
  {D:Nat->Prop} {u v:Value} {a c l1 l2:Nat} (hu:Fo D W u a l1) (hv:Fo D W v c l2) (k1:l1<=M) (k2:l2<=l1) (hf:f i=eu T.B T.D T.N l1 l2):
  Calls Tryz.prog 84 #[.pointer (some ⟨gm,0,none⟩),u,v] W fun e W'=>∃ r,e=.returned r/\aO W.heap.size W' r (a*c)/\yd gm gt gk ge g s l m T L f (i+1) W'/\Out (·=g) W W':=by
 obtain⟨m1,E,q1,q2,tb⟩:=h
 have lu:=yO hu
 have lv:=yO hv
 obtain⟨ga,b,o,cap,xs,rfl,hl,hr,hd,rfl,_⟩:=hu
 obtain⟨gb,b',o',cap',ys,rfl,hl',hr',hd',rfl,_⟩:=hv
 refine(IH W gm gt gk ge g _ _ _ T ga gb b o cap l1 b' o' cap' l2 xs ys E tb (by omega) (by omega) (by omega) (by omega) hl hr hd hl' hr' hd' k1 (by omega)).mono ?_
 rintro e W' ⟨r,m2,rfl,nr,E2,q3,q4,oo⟩
 have hp:af xs*af ys<18446744073709551616^(l1+l2):=by rw[Nat.pow_add];exact Nat.mul_lt_mul'' lu lv
 have el:jq (max l1 l2)<=L:=Nat.le_trans (vK (by omega) (by omega)) hL
 rw[Nat.max_eq_left k2,Nat.min_eq_right k2]at E2
 refine⟨r,rfl,nr.toI hp (by omega),⟨m2,?_,by omega,by omega,E.tb oo tb⟩,oo⟩
 rw[acc,hf,Int.natCast_add, <-Int.add_assoc]
 exact E2
theorem yd.sqr{M:Nat}(IH:iP M){gm gt gk ge g:Nat}{s l m:Int}{T:Tab}{L:Nat}{f:Nat->Nat}{i:Nat}{W:World}(h:yd gm gt gk ge g s l m T L f i W)(hM:M<=16384)
  (h0:0<=s) (h1:s+35184372088832*((M:Int)+2)<=2305843009213693952) (h2:0<=l) (h3:l+1+(M:Int)<=100000) (ha:acc f i<=35184372088832) (hL:jq M<=L)
  {D:Nat->Prop} {u:Value} {a l1:Nat} (hu:Fo D W u a l1) (k1:l1<=M) (hf:f i=iL T.B T.D T.N l1):
  Calls Tryz.prog 76 #[.pointer (some ⟨gm,0,none⟩),u] W fun e W'=>∃ r,e=.returned r/\aO W.heap.size W' r (a*a)/\yd gm gt gk ge g s l m T L f (i+1) W'/\Out (·=g) W W':=by
 obtain⟨m1,E,q1,q2,tb⟩:=h
 have lu:=yO hu
 obtain⟨ga,b,o,cap,xs,rfl,hl,hr,hd,rfl,_⟩:=hu
 refine(IH W gm gt gk ge g _ _ _ T ga b o cap l1 xs E tb (by omega) (by omega) (by omega) (by omega) hl hr hd k1).mono ?_
 rintro e W' ⟨r,m2,rfl,nr,E2,q3,q4,oo⟩
 have hp:af xs*af xs<18446744073709551616^(l1+l1):=by rw[Nat.pow_add];exact Nat.mul_lt_mul'' lu lu
 have el:jq l1<=L:=Nat.le_trans (vK (by omega) (by omega)) hL
 refine⟨r,rfl,nr.toI hp (by omega),⟨m2,?_,by omega,by omega,E.tb oo tb⟩,oo⟩
 rw[acc,hf,Int.natCast_add, <-Int.add_assoc]
 exact E2
def iO(w:World)(gm gt gk ge g:Nat)(s l m:Int)(T:Tab)(P C L:Nat)(e:Ending)(w':World):Prop:=
 ∃ r m',e=.returned (.tuple #[r,.bool true])/\ah w.heap.size w' r P/\aC w' gm gt gk ge g (s+(C:Nat)) l m' T/\m<=m'/\m'<=max m (l+(L:Nat))/\Out (·=g) w w'
def bu(w:World)(gm gt gk ge g:Nat)(s l m:Int)(T:Tab)(P C L:Nat)(r:Value)(w':World):Prop:=
 ∃ m',ah w.heap.size w' r P/\aC w' gm gt gk ge g (s+(C:Nat)) l m' T/\m<=m'/\m'<=max m (l+(L:Nat))/\Out (·=g) w w'
theorem eJ{w:World}{gm gt gk ge g:Nat}{s l m:Int}{T:Tab}{P C L:Nat}{e:Ending}{w':World}(h:iO w gm gt gk ge g s l m T P C L e w'):∃ r,e=.returned (.tuple #[r,.bool true])/\bu w gm gt gk ge g s l m T P C L r w':=by
 obtain⟨r,m',h1,h2⟩:=h
 exact⟨r,h1,m',h2⟩
def vI(B D N n m h:Nat)(i:Nat):Nat:=if i=0 then eu B D N h h else if i=1 then eu B D N (n-h) (m-h) else eu B D N (h+1) (h+1)
def xJ(B D N n m h:Nat)(i:Nat):Nat:=if i=0 then eu B D N h h else if i=4 then eu B D N (n-2*h) (m-2*h) else eu B D N (h+1) (h+1)
def PE(B D N n h:Nat)(i:Nat):Nat:=if i=0 then iL B D N h else if i=1 then iL B D N (n-h) else iL B D N (h+1)
def PV(B D N n h:Nat)(i:Nat):Nat:=if i=0 then iL B D N h else if i=4 then iL B D N (n-2*h) else iL B D N (h+1)
theorem Hg{B D N n m h:Nat}(e:oG B D N)(hm:m<=n)(hn:n<=16384)(hh:h+1<=16384)(i:Nat):vI B D N n m h i<=2147483648:=by
 unfold vI
 split
 ·exact iT e (Nat.le_refl _) (by omega)
 ·split
  ·exact iT e (by omega) (by omega)
  ·exact iT e (Nat.le_refl _) (by omega)
theorem Jh{B D N n m h:Nat}(e:oG B D N)(hm:m<=n)(hn:n<=16384)(hh:h+1<=16384)(i:Nat):xJ B D N n m h i<=2147483648:=by
 unfold xJ
 split
 ·exact iT e (Nat.le_refl _) (by omega)
 ·split
  ·exact iT e (by omega) (by omega)
  ·exact iT e (Nat.le_refl _) (by omega)
theorem Oo{B D N n h:Nat}(e:oG B D N)(hn:n<=16384)(hh:h+1<=16384)(i:Nat):PE B D N n h i<=2147483648:=by
 unfold PE
 split
 ·exact kA e (by omega)
 ·split
  ·exact kA e (by omega)
  ·exact kA e (by omega)
theorem OZ{B D N n h:Nat}(e:oG B D N)(hn:n<=16384)(hh:h+1<=16384)(i:Nat):PV B D N n h i<=2147483648:=by
 unfold PV
 split
 ·exact kA e (by omega)
 ·split
  ·exact kA e (by omega)
  ·exact kA e (by omega)
end Go.Proofs.YtgcnhfgpflncaaaGreatDoor
/- Kara,Toom,the hand and transforms,handed the engine's own products. -/
namespace Go.Proofs.YtgcnhfgpflncaaaGreatDoor
open Go.RowKit
theorem vx(args:Array Value)(W:World):(callFunc 84 args).run Tryz.prog W=.ok (.enter 84 args) W:=by
 kernel_rfl
theorem rk(args:Array Value)(W:World):(callFunc 76 args).run Tryz.prog W=.ok (.enter 76 args) W:=by
 kernel_rfl
theorem uQ(p u v:Value):#[p]++#[u,v]++#[]=#[p,u,v]:=by simp
theorem uP(p u:Value):#[p]++#[u]++#[]=#[p,u]:=by simp
theorem tC{g:Nat}{a b:World}(o:Out (·=g) a b):Out (fun j=>False\/j=g) a b:=o.mono (fun _ e=>Or.inr e)
theorem tD{g:Nat}{a b:World}(o:Out (fun j=>False\/j=g) a b):Out (·=g) a b:=o.mono (fun _ e=>e.resolve_left id)
theorem yU{M:Nat}(IH:dG M)(hM:M<=16384){w:World}{gm gt gk ge g:Nat}{s l m:Int}{T:Tab}(hE:aC w gm gt gk ge g s l m T)(hT:TB w)
  (h0:0<=s) (h1:s+35184372088832*((M:Int)+2)<=2305843009213693952) (h2:0<=l) (h3:l+1+(M:Int)<=100000)
  {ga gb:Option Addr} {b o cap la b' o' cap' lb h:Nat} {xs ys:List Nat} (hxl:xs.length=la) (hR:Rep w ga b o cap xs) (hdx:ao xs) (hyl:ys.length=lb) (hR':Rep w gb b' o' cap' ys) (hdy:ao ys) (hla:la<=16384) (hlb:lb<=16384)
  (hh:h=(max la lb+1)/2) (hlt:h<min la lb) (hp:h+1<=M):
  Calls Tryz.prog 146 #[.pointer (some ⟨gk,0,none⟩),.slice ga la cap,.slice gb lb cap',.func (.func 84) #[.pointer (some ⟨gm,0,none⟩)] #[]] w
   (iO w gm gt gk ge g s l m T (af xs*af ys) (fA T.B T.D T.N 3 (max la lb) (min la lb)) (jq M+1)):=by
 have ac:=oO (Hg T.ent (n:=max la lb) (m:=min la lb) (h:=h) (by omega) (by omega) (by omega))
 refine(Eu w gk ge g s l m T ga gb b o cap la b' o' cap' lb h xs ys 84 #[.pointer (some ⟨gm,0,none⟩)] #[] (fun _=>False) (yd gm gt gk ge g s l m T (jq M) (vI T.B T.D T.N (max la lb) (min la lb) h))
  hE.toom.kara h2 (by omega) hxl hR hdx (fun _ x=>x) hyl hR' hdy (fun _ x=>x) hla hlb hh hlt (fun x=>x) (fun x=>x) (fun x=>x) (fun _ x=>x.elim) ⟨vx,fun i W W' st b=>st.next b,fun i W st=>?_,fun i W u v a c hi st iu iv=>?_⟩ (fun W oo K=>?_)).mono ?_
 ·obtain⟨m1,E,_,_,_⟩:=st
  exact⟨_,m1,E.toom.kara⟩
 ·rw[uQ]
  have ai:=ac i
  have hi2:i*2147483648<=3*2147483648:=Nat.mul_le_mul_right _ (by omega)
  refine(st.call IH hM h0 h1 h2 h3 (by omega) (Nat.le_refl _) iu iv ?_ ?_ ?_).mono ?_
  ·clear ai hi2 ac st
   match i,hi with
   |0,_=>show h<=M;omega
   |1,_=>show max la lb-h<=M;omega
   |2,_=>show h+1<=M;omega
  ·clear ai hi2 ac st
   match i,hi with
   |0,_=>show h<=h;omega
   |1,_=>show min la lb-h<=max la lb-h;omega
   |2,_=>show h+1<=h+1;omega
  ·clear ai hi2 ac st
   match i,hi with
   |0,_=>rfl
   |1,_=>rfl
   |2,_=>rfl
  ·rintro e W' ⟨r,rfl,nr,st',oo⟩
   exact⟨r,rfl,nr,st',tC oo⟩
 ·exact⟨_,by rw[acc,Int.natCast_zero,Int.add_zero];exact hE.kept oo (hE.toom.kept oo K),Int.le_refl _,by omega,hE.tb oo hT⟩
 ·rintro e w' ⟨v,W,rfl,nv,⟨m1,E,q1,q2,tb⟩,o1,hk,o2⟩
  have o3:=tD o2
  have K':=hk _ _ E.toom.kara
  have ec:acc (vI T.B T.D T.N (max la lb) (min la lb) h) 3=fA T.B T.D T.N 3 (max la lb) (min la lb):=by
   subst hh
   simp[acc,vI,fA]
  rw[ec]at K'
  exact⟨v,m1,rfl,nv,hE.kept o3 (hE.toom.kept o3 K'),by omega,by omega,o3⟩
theorem zC{M:Nat}(IH:dG M)(hM:M<=16384){w:World}{gm gt gk ge g:Nat}{s l m:Int}{T:Tab}(hE:aC w gm gt gk ge g s l m T)(hT:TB w)
  (h0:0<=s) (h1:s+35184372088832*((M:Int)+2)<=2305843009213693952) (h2:0<=l) (h3:l+1+(M:Int)<=100000)
  {ga gb:Option Addr} {b o cap la b' o' cap' lb h:Nat} {xs ys:List Nat} (hxl:xs.length=la) (hR:Rep w ga b o cap xs) (hdx:ao xs) (hyl:ys.length=lb) (hR':Rep w gb b' o' cap' ys) (hdy:ao ys) (hla:la<=16384) (hlb:lb<=16384)
  (hh:h=(max la lb+2)/3) (hlt:2*h<min la lb) (hp:h+1<=M):
  Calls Tryz.prog 147 #[.pointer (some ⟨gt,0,none⟩),.slice ga la cap,.slice gb lb cap',.func (.func 84) #[.pointer (some ⟨gm,0,none⟩)] #[]] w
   (iO w gm gt gk ge g s l m T (af xs*af ys) (fA T.B T.D T.N 4 (max la lb) (min la lb)) (jq M+1)):=by
 have ac:=oO (Jh T.ent (n:=max la lb) (m:=min la lb) (h:=h) (by omega) (by omega) (by omega))
 refine(EF w gt gk ge g s l m T ga gb b o cap la b' o' cap' lb h xs ys 84 #[.pointer (some ⟨gm,0,none⟩)] #[] (fun _=>False) (yd gm gt gk ge g s l m T (jq M) (xJ T.B T.D T.N (max la lb) (min la lb) h))
  hE.toom h2 (by omega) hxl hR hdx (fun _ x=>x) hyl hR' hdy (fun _ x=>x) hla hlb hh hlt (fun x=>x) (fun x=>x) (fun x=>x) (fun x=>x) (fun _ x=>x.elim) ⟨vx,fun i W W' st oo=>st.far hE hT oo,fun i W st=>?_,fun i W u v a c hi st iu iv=>?_⟩ (fun W oo K=>?_)).mono ?_
 ·obtain⟨m1,E,_,_,_⟩:=st
  exact⟨_,m1,E.toom⟩
 ·rw[uQ]
  have ai:=ac i
  have hi2:i*2147483648<=5*2147483648:=Nat.mul_le_mul_right _ (by omega)
  refine(st.call IH hM h0 h1 h2 h3 (by omega) (Nat.le_refl _) iu iv ?_ ?_ ?_).mono ?_
  ·clear ai hi2 ac st
   match i,hi with
   |0,_=>show h<=M;omega
   |1,_=>show h+1<=M;omega
   |2,_=>show h+1<=M;omega
   |3,_=>show h+1<=M;omega
   |4,_=>show max la lb-2*h<=M;omega
  ·clear ai hi2 ac st
   match i,hi with
   |0,_=>show h<=h;omega
   |1,_=>show h+1<=h+1;omega
   |2,_=>show h+1<=h+1;omega
   |3,_=>show h+1<=h+1;omega
   |4,_=>show min la lb-2*h<=max la lb-2*h;omega
  ·clear ai hi2 ac st
   match i,hi with
   |0,_=>rfl
   |1,_=>rfl
   |2,_=>rfl
   |3,_=>rfl
   |4,_=>rfl
  ·rintro e W' ⟨r,rfl,nr,st',oo⟩
   exact⟨r,rfl,nr,st',tC oo⟩
 ·exact⟨_,by rw[acc,Int.natCast_zero,Int.add_zero];exact hE.kept oo K,Int.le_refl _,by omega,hE.tb oo hT⟩
 ·rintro e w' ⟨v,W,rfl,nv,⟨m1,E,q1,q2,tb⟩,o1,hk,o2⟩
  have o3:=tD o2
  have K':=hk _ _ E.toom
  have ec:acc (xJ T.B T.D T.N (max la lb) (min la lb) h) 5=fA T.B T.D T.N 4 (max la lb) (min la lb):=by
   subst hh
   simp[acc,xJ,fA]
   omega
  rw[ec]at K'
  exact⟨v,m1,rfl,nv,hE.kept o3 K',by omega,by omega,o3⟩
theorem vN(n m:Nat):max n m*min n m=n*m:=by
 by_cases hc:m<=n
 ·rw[Nat.max_eq_left hc,Nat.min_eq_right hc]
 ·rw[Nat.max_eq_right (by omega),Nat.min_eq_left (by omega),Nat.mul_comm]
theorem PU(n m k:Nat):tf (max n m) (min n m) k=tf n m k:=by
 by_cases hc:m<=n
 ·rw[Nat.max_eq_left hc,Nat.min_eq_right hc]
 ·rw[Nat.max_eq_right (by omega),Nat.min_eq_left (by omega),MF]
theorem tU{w:World}{gm gt gk ge g:Nat}{s l m:Int}{T:Tab}(hE:aC w gm gt gk ge g s l m T)(h0:0<=s)(h1:s<=2305843009213693952)
  {ga gb:Option Addr} {b o cap la b' o' cap' lb:Nat} {xs ys:List Nat} (hxl:xs.length=la) (hR:Rep w ga b o cap xs) (hdx:ao xs) (hyl:ys.length=lb) (hR':Rep w gb b' o' cap' ys) (hdy:ao ys) (hla:la<=16384) (hlb:lb<=16384):
  Calls Tryz.prog 145 #[.pointer (some ⟨ge,0,none⟩),.slice ga la cap,.slice gb lb cap'] w fun e w'=>∃ r,e=.returned r/\bu w gm gt gk ge g s l m T (af xs*af ys) (fA T.B T.D T.N 1 (max la lb) (min la lb)) 0 r w':=by
 have iu:O6 g w (.slice ga la cap) (af xs) la:=⟨_,_,_,_,xs,rfl,hxl,hR,hdx,rfl,by rw[<-hxl];exact hE.eng.away hR⟩
 have iv:O6 g w (.slice gb lb cap') (af ys) lb:=⟨_,_,_,_,ys,rfl,hyl,hR',hdy,rfl,by rw[<-hyl];exact hE.eng.away hR'⟩
 refine(xn hE.eng _ _ _ _ la lb iu iv (by omega) (by omega) h0 (by omega)).mono ?_
 rintro e w' ⟨r,rfl,k1,k2,k3⟩
 have ec:fA T.B T.D T.N 1 (max la lb) (min la lb)=la*lb:=by
  simp only[fA,if_true]
  exact vN la lb
 rw[ec]
 exact⟨r,rfl,m,k1,hE.step k2.met k3,Int.le_refl _,by omega,Out.of_grown k3.grown⟩
theorem yB{w:World}{gm gt gk ge g:Nat}{s l m:Int}{T:Tab}(hE:aC w gm gt gk ge g s l m T)(hT:TB w)(h0:0<=s)(h1:s<=2305843009213693952)
  {ga gb:Option Addr} {b o cap la b' o' cap' lb:Nat} {xs ys:List Nat} (hxl:xs.length=la) (hR:Rep w ga b o cap xs) (hdx:ao xs) (hyl:ys.length=lb) (hR':Rep w gb b' o' cap' ys) (hdy:ao ys) (hla:la<=16384) (hlb:lb<=16384) (ha:1<=la) (hb:1<=lb):
  Calls Tryz.prog 148 #[.pointer (some ⟨g,0,none⟩),.slice ga la cap,.slice gb lb cap'] w (iO w gm gt gk ge g s l m T (af xs*af ys) (fA T.B T.D T.N 5 (max la lb) (min la lb)) 0):=by
 refine(uX w g 0 s l m ga gb b o cap la b' o' cap' lb xs ys hT hE.met h0 h1 hxl hR hdx hyl hR' hdy ha hla hb hlb).mono ?_
 rintro e w' ⟨r,rfl,k1,k2,k3⟩
 have ec:fA T.B T.D T.N 5 (max la lb) (min la lb)=tf la lb 3:=by
  simp[fA]
  exact PU la lb 3
 rw[iO,ec]
 exact⟨r,m,rfl,k1,hE.step k2 k3,Int.le_refl _,by omega,Out.of_grown k3.grown⟩
end Go.Proofs.YtgcnhfgpflncaaaGreatDoor
/- KaraSqr,ToomSqr,squares by hand and by transforms,handed the engine's own squares. -/
namespace Go.Proofs.YtgcnhfgpflncaaaGreatDoor
open Go.RowKit
def kU(B D N r n:Nat):Nat:=
 if r=1 then n*(n+1)/2
 else if r=3 then iL B D N ((n+1)/2)+iL B D N (n-(n+1)/2)+iL B D N ((n+1)/2+1)
 else if r=4 then iL B D N ((n+2)/3)+3*iL B D N ((n+2)/3+1)+iL B D N (n-2*((n+2)/3))
 else if r=5 then tf n n 2 else 0
theorem KV{M:Nat}(IH:iP M)(hM:M<=16384){w:World}{gm gt gk ge g:Nat}{s l m:Int}{T:Tab}(hE:aC w gm gt gk ge g s l m T)(hT:TB w)
  (h0:0<=s) (h1:s+35184372088832*((M:Int)+2)<=2305843009213693952) (h2:0<=l) (h3:l+1+(M:Int)<=100000)
  {ga:Option Addr} {b o cap la h:Nat} {xs:List Nat} (hxl:xs.length=la) (hR:Rep w ga b o cap xs) (hdx:ao xs) (hla:la<=16384)
  (hh:h=(la+1)/2) (hlt:2<=la) (hp:h+1<=M):
  Calls Tryz.prog 101 #[.pointer (some ⟨gk,0,none⟩),.slice ga la cap,.func (.func 76) #[.pointer (some ⟨gm,0,none⟩)] #[]] w
   (iO w gm gt gk ge g s l m T (af xs*af xs) (kU T.B T.D T.N 3 la) (jq M+1)):=by
 have ac:=oO (Oo T.ent (n:=la) (h:=h) hla (by omega))
 refine(Ey w gk ge g s l m T ga b o cap la h xs 76 #[.pointer (some ⟨gm,0,none⟩)] #[] (fun _=>False) (yd gm gt gk ge g s l m T (jq M) (PE T.B T.D T.N la h))
  hE.toom.kara h2 (by omega) hxl hR hdx (fun _ x=>x) hla hh hlt (fun x=>x) (fun x=>x) (fun x=>x) (fun _ x=>x.elim) ⟨rk,fun i W W' st b=>st.next b,fun i W st=>?_,fun i W u a hi st iu=>?_⟩ (fun W oo K=>?_)).mono ?_
 ·obtain⟨m1,E,_,_,_⟩:=st
  exact⟨_,m1,E.toom.kara⟩
 ·rw[uP]
  have ai:=ac i
  have hi2:i*2147483648<=3*2147483648:=Nat.mul_le_mul_right _ (by omega)
  refine(st.sqr IH hM h0 h1 h2 h3 (by omega) (Nat.le_refl _) iu ?_ ?_).mono ?_
  ·clear ai hi2 ac st
   match i,hi with
   |0,_=>show h<=M;omega
   |1,_=>show la-h<=M;omega
   |2,_=>show h+1<=M;omega
  ·clear ai hi2 ac st
   match i,hi with
   |0,_=>rfl
   |1,_=>rfl
   |2,_=>rfl
  ·rintro e W' ⟨r,rfl,nr,st',oo⟩
   exact⟨r,rfl,nr,st',tC oo⟩
 ·exact⟨_,by rw[acc,Int.natCast_zero,Int.add_zero];exact hE.kept oo (hE.toom.kept oo K),Int.le_refl _,by omega,hE.tb oo hT⟩
 ·rintro e w' ⟨v,W,rfl,nv,⟨m1,E,q1,q2,tb⟩,o1,hk,o2⟩
  have o3:=tD o2
  have K':=hk _ _ E.toom.kara
  have ec:acc (PE T.B T.D T.N la h) 3=kU T.B T.D T.N 3 la:=by
   subst hh
   simp[acc,PE,kU]
  rw[ec]at K'
  exact⟨v,m1,rfl,nv,hE.kept o3 (hE.toom.kept o3 K'),by omega,by omega,o3⟩
theorem MM{M:Nat}(IH:iP M)(hM:M<=16384){w:World}{gm gt gk ge g:Nat}{s l m:Int}{T:Tab}(hE:aC w gm gt gk ge g s l m T)(hT:TB w)
  (h0:0<=s) (h1:s+35184372088832*((M:Int)+2)<=2305843009213693952) (h2:0<=l) (h3:l+1+(M:Int)<=100000)
  {ga:Option Addr} {b o cap la h:Nat} {xs:List Nat} (hxl:xs.length=la) (hR:Rep w ga b o cap xs) (hdx:ao xs) (hla:la<=16384)
  (hh:h=(la+2)/3) (hlt:2*h<la) (hp:h+1<=M):
  Calls Tryz.prog 102 #[.pointer (some ⟨gt,0,none⟩),.slice ga la cap,.func (.func 76) #[.pointer (some ⟨gm,0,none⟩)] #[]] w
   (iO w gm gt gk ge g s l m T (af xs*af xs) (kU T.B T.D T.N 4 la) (jq M+1)):=by
 have ac:=oO (OZ T.ent (n:=la) (h:=h) hla (by omega))
 refine(EG w gt gk ge g s l m T ga b o cap la h xs 76 #[.pointer (some ⟨gm,0,none⟩)] #[] (fun _=>False) (yd gm gt gk ge g s l m T (jq M) (PV T.B T.D T.N la h))
  hE.toom h2 (by omega) hxl hR hdx (fun _ x=>x) hla hh hlt (fun x=>x) (fun x=>x) (fun x=>x) (fun x=>x) (fun _ x=>x.elim) ⟨rk,fun i W W' st oo=>st.far hE hT oo,fun i W st=>?_,fun i W u a hi st iu=>?_⟩ (fun W oo K=>?_)).mono ?_
 ·obtain⟨m1,E,_,_,_⟩:=st
  exact⟨_,m1,E.toom⟩
 ·rw[uP]
  have ai:=ac i
  have hi2:i*2147483648<=5*2147483648:=Nat.mul_le_mul_right _ (by omega)
  refine(st.sqr IH hM h0 h1 h2 h3 (by omega) (Nat.le_refl _) iu ?_ ?_).mono ?_
  ·clear ai hi2 ac st
   match i,hi with
   |0,_=>show h<=M;omega
   |1,_=>show h+1<=M;omega
   |2,_=>show h+1<=M;omega
   |3,_=>show h+1<=M;omega
   |4,_=>show la-2*h<=M;omega
  ·clear ai hi2 ac st
   match i,hi with
   |0,_=>rfl
   |1,_=>rfl
   |2,_=>rfl
   |3,_=>rfl
   |4,_=>rfl
  ·rintro e W' ⟨r,rfl,nr,st',oo⟩
   exact⟨r,rfl,nr,st',tC oo⟩
 ·exact⟨_,by rw[acc,Int.natCast_zero,Int.add_zero];exact hE.kept oo K,Int.le_refl _,by omega,hE.tb oo hT⟩
 ·rintro e w' ⟨v,W,rfl,nv,⟨m1,E,q1,q2,tb⟩,o1,hk,o2⟩
  have o3:=tD o2
  have K':=hk _ _ E.toom
  have ec:acc (PV T.B T.D T.N la h) 5=kU T.B T.D T.N 4 la:=by
   subst hh
   simp[acc,PV,kU]
   omega
  rw[ec]at K'
  exact⟨v,m1,rfl,nv,hE.kept o3 K',by omega,by omega,o3⟩
theorem Ek{w:World}{gm gt gk ge g:Nat}{s l m:Int}{T:Tab}(hE:aC w gm gt gk ge g s l m T)(h0:0<=s)(h1:s<=2305843009213693952)
  {ga:Option Addr} {b o cap la:Nat} {xs:List Nat} (hxl:xs.length=la) (hR:Rep w ga b o cap xs) (hdx:ao xs) (hla:la<=16384):
  Calls Tryz.prog 100 #[.pointer (some ⟨ge,0,none⟩),.slice ga la cap] w fun e w'=>∃ r,e=.returned r/\bu w gm gt gk ge g s l m T (af xs*af xs) (kU T.B T.D T.N 1 la) 0 r w':=by
 have iu:O6 g w (.slice ga la cap) (af xs) la:=⟨_,_,_,_,xs,rfl,hxl,hR,hdx,rfl,by rw[<-hxl];exact hE.eng.away hR⟩
 refine(xp hE.eng _ _ la _ iu (by omega) h0 (by omega) rfl).mono ?_
 rintro e w' ⟨r,rfl,k1,k2,k3⟩
 have ec:kU T.B T.D T.N 1 la=la*(la+1)/2:=by simp[kU]
 rw[ec]
 exact⟨r,rfl,m,k1,hE.step k2.met k3,Int.le_refl _,by omega,Out.of_grown k3.grown⟩
theorem J9{w:World}{gm gt gk ge g:Nat}{s l m:Int}{T:Tab}(hE:aC w gm gt gk ge g s l m T)(hT:TB w)(h0:0<=s)(h1:s<=2305843009213693952)
  {ga:Option Addr} {b o cap la:Nat} {xs:List Nat} (hxl:xs.length=la) (hR:Rep w ga b o cap xs) (hdx:ao xs) (hla:la<=16384) (ha:1<=la):
  Calls Tryz.prog 103 #[.pointer (some ⟨g,0,none⟩),.slice ga la cap] w (iO w gm gt gk ge g s l m T (af xs*af xs) (kU T.B T.D T.N 5 la) 0):=by
 refine(ve w g 0 s l m ga b o cap la xs hT hE.met h0 h1 hxl hR hdx ha hla).mono ?_
 rintro e w' ⟨r,rfl,k1,k2,k3⟩
 have ec:kU T.B T.D T.N 5 la=tf la la 2:=by simp[kU]
 rw[iO,ec]
 exact⟨r,m,rfl,k1,hE.step k2 k3,Int.le_refl _,by omega,Out.of_grown k3.grown⟩
end Go.Proofs.YtgcnhfgpflncaaaGreatDoor
/- Steps of the laws on package mul:what is spent only bounded;what is answered,as a natural of the reference. -/
namespace Go.Proofs.YtgcnhfgpflncaaaGreatDoor
open Go.RowKit
theorem OS(T:Tab)(n:Nat)(hn:n<=16384):0<=OR T (n:Int)/\OR T (n:Int)<=8*((n*n:Nat):Int):=by
 rw[AH T hn]
 have:=rV T.ent n
 generalize iL T.B T.D T.N n=c at *
 generalize n*n=q at *
 omega
theorem bh.wl_le{w:World}{v:Value}{n:Nat}(h:bh w v n):wl n<=16384:=by
 obtain⟨ga,b,o,cap,xs,rfl,hr,hd,hv,hl⟩:=h
 rw[<-hv]
 exact Nat.le_trans (dq hd) hl
theorem aL.shp{w:World}{v:Value}{n:Nat}(h:aL w v n):∃ g l c,v=.slice g l c:=by
 obtain⟨ga,b,o,cap,xs,rfl,_⟩:=h
 exact⟨_,_,_,rfl⟩
theorem Gt(SM:uL)(w:World)(gm gt gk ge g:Nat)(s l m:Int)(T:Tab)(u v:Value)(A C:Nat)(hE:aC w gm gt gk ge g s l m T)(hT:TB w)(h0:0<=s)(h1:s<=576460752303423488)(h2:0<=l)(h3:l<=1000)(hu:bh w u A)(hv:bh w v C):
  Calls Tryz.prog 65 #[.pointer (some ⟨gm,0,none⟩),u,v] w fun e w'=>∃ r s' m',e=.returned r/\ah w.heap.size w' r (A*C)/\aC w' gm gt gk ge g s' l m' T/\0<=s'/\s'<=s+4294967296/\Out (·=g) w w':=by
 refine(SM w gm gt gk ge g s l m T u v A C hE hT h0 (by omega) h2 h3 hu hv).mono ?_
 rintro e w' ⟨r,m',rfl,nr,E,_,_,o⟩
 have c:=vf T (wl A) (wl C) hu.wl_le hv.wl_le
 have q:wl A*wl C<=16384*16384:=Nat.mul_le_mul hu.wl_le hv.wl_le
 refine⟨r,_,m',rfl,nr,E,?_,?_,o⟩
 ·omega
 ·omega
theorem Gu(SQ:uM)(w:World)(gm gt gk ge g:Nat)(s l m:Int)(T:Tab)(u:Value)(A:Nat)(hE:aC w gm gt gk ge g s l m T)(hT:TB w)(h0:0<=s)(h1:s<=576460752303423488)(h2:0<=l)(h3:l<=1000)(hu:bh w u A):
  Calls Tryz.prog 58 #[.pointer (some ⟨gm,0,none⟩),u] w fun e w'=>∃ r s' m',e=.returned r/\ah w.heap.size w' r (A*A)/\aC w' gm gt gk ge g s' l m' T/\0<=s'/\s'<=s+4294967296/\Out (·=g) w w':=by
 refine(SQ w gm gt gk ge g s l m T u A hE hT h0 (by omega) h2 h3 hu).mono ?_
 rintro e w' ⟨r,m',rfl,nr,E,_,_,o⟩
 have c:=OS T (wl A) hu.wl_le
 have q:wl A*wl A<=16384*16384:=Nat.mul_le_mul hu.wl_le hu.wl_le
 refine⟨r,_,m',rfl,nr,E,?_,?_,o⟩
 ·omega
 ·omega
theorem Jp(w:World)(v:Value)(n p:Nat)(hp:p<=16384)(hn:n<18446744073709551616^p)(h:aY w v n):
  Calls Tryz.prog 25 #[v] w fun e w'=>∃ r,e=.returned r/\bh w' r n/\Below w.heap.size w w':=by
 refine(OX w v n p (by omega) hn h).mono ?_
 rintro e w' ⟨ga,b,cap,ws,l,rfl,rfl,hl,hr,hd,hv,bb⟩
 exact⟨_,rfl,⟨ga,b,0,cap,ws,rfl,hr,hd,hv,by omega⟩,bb⟩
end Go.Proofs.YtgcnhfgpflncaaaGreatDoor
/- What the laws on package root call themselves:a row as a natural;the example of the document. -/
namespace Go.Proofs.YtgcnhfgpflncaaaGreatDoor
open Go.RowKit
set_option maxHeartbeats 1600000 in
theorem fN(w:World)(ga:Option Addr)(b o cap n A:Nat)(us:List Nat)(hl:us.length=n)(hn:n<=1073741824)(hR:Rep w ga b o cap us)(hd:ao us)(hA:A=af us):
  Calls Tryz.prog 13 #[.slice ga n cap] w fun e w'=>∃ v,e=.returned v/\aY w' v A/\Below w.heap.size w w':=by
 subst hl
 have CF:=hide (vt w ga b o cap us (by omega) hR (JD hd))
 rw[<-hA]at CF
 clear hA
 generalize us.length=n at *
 go_enter Tryz.func13,Tryz.ntmps13
 go_wp2_with fail
 refine(ae CF).mono ?_
 rintro e w1 ⟨v,rfl,h1,h2⟩
 clear CF
 go_wp2
 go_ret
 exact⟨v,rfl,h1,h2⟩
theorem dI(w:World)(v:Value)(n B p:Nat)(hp:p<=100000)(hn:n<18446744073709551616^p)(h:ah B w v n):
  Calls Tryz.prog 13 #[v] w fun e w'=>∃ r,e=.returned r/\aY w' r n/\Below w.heap.size w w':=by
 obtain⟨ga,b,cap,xs,rfl,hr,hc,hv,_⟩:=h.rep
 have:=dE hc (L:=p) (by rw[hv];exact hn)
 exact fN w ga b 0 cap xs.length n xs rfl (by omega) hr hc.1 hv.symm
set_option maxRecDepth 100000 in
set_option maxHeartbeats 6400000 in
theorem bM(SN:fS)(SS:fU)(w:World)(hT:TB w):Calls Tryz.prog 19 #[] w fun e w'=>e=.returned (.bool true)/\Below w.heap.size w w':=by
 have CN:=hide (fun w=>SN ⟨0,0,0,0,0,0,0,0,0,0,0⟩ w)
 unfold Tab.val at CN
 have HSS:=hide SS
 have HT:=hide hT
 clear SN SS hT
 go_enter Tryz.func19,Tryz.ntmps19
 go_wp2_with fail
 refine(ae CN _).mono ?_
 rintro e w1 ⟨gw,gv,gr,gd,gm,gt,gk,ge,g,rfl,E,hn,b⟩
 have bl:=b
 have hg:w.heap.size<=g:=by omega
 have d1:Below w1.heap.size w1 (w1.alloc (.cells #[.int .u64 10] 41)):=(Below.refl _ _).alloc (Nat.le_refl _) _
 have i1:=KI w1 10 (by decide)
 have E2:=E.next d1
 have b2:=hide (ag bl d1)
 have w10:wl 10<=100:=Nat.le_trans (bQ 1 10 (by decide)) (by decide)
 have r10:bU 2 10 3:=⟨by decide,by decide⟩
 have CP:=hide (ae HSS _ gw gv gr gd gm gt gk ge g 0 0 0 _ _ 10 3 E2 ((ae HT).next (ae b2)) (by decide) (by decide) (by decide) (by decide) i1 r10 w10)
 clear d1 E b bl hn CN i1 E2 HSS w10 r10
 go_wp2_with fail
 refine(ae CP).mono ?_
 generalize (w1.alloc (.cells #[.int .u64 10] 41))=W2 at *
 rintro e w5 ⟨q,r,gq,gx,s',m',rfl,nq,nr,_,_,_,o⟩
 have nr:ah gx w5 r 1:=nr.toW
 have nq:ah gq w5 q 3:=nq.toW
 have b5:=hide ((ae b2).trans (o.below (B:=w.heap.size) (ae b2).size (fun k hk=>by rw[hk];exact hg)))
 have d2:Below w5.heap.size w5 (w5.alloc (.cells #[.int .u64 3] 41)):=(Below.refl _ _).alloc (Nat.le_refl _) _
 have CS:=hide (xk w5 _ 3 q (by decide) (by decide) nq)
 obtain⟨qa,ql,qc,rfl⟩:=nq.shape
 obtain⟨ra,rl,rc,rfl⟩:=nr.shape
 clear CP b2 nq o
 go_wp2_with fail
 refine(ae CS).mono ?_
 rintro e w6 ⟨rfl,b6⟩
 have nr:=nr.next b6
 have b7:=hide (ag (ae b5) b6)
 have CS:=hide (xk w6 _ 1 _ (by decide) (by decide) nr)
 clear b5 b6 nr
 go_wp2_with fail
 refine(ae CS).mono ?_
 rintro e w7 ⟨rfl,b8⟩
 have bl:=ag (ae b7) b8
 clear CS b7 b8
 go_wp2
 go_ret
 exact⟨rfl,bl⟩
end Go.Proofs.YtgcnhfgpflncaaaGreatDoor
/- Two answers that say the same number have the same words. -/
namespace Go.Proofs.YtgcnhfgpflncaaaGreatDoor
open Go.RowKit
theorem pS(w:World)(u v:Value)(m n B C p:Nat)(hp:p<=1073741824)(hm:m<18446744073709551616^p)(e:m=n)(hu:ah B w u m)(hv:ah C w v n):
  Calls Tryz.prog 30 #[u,v] w fun e w'=>e=.returned (.bool true)/\Below w.heap.size w w':=by
 obtain⟨ga,b,cap,xs,rfl,hr,hc,hw,_⟩:=hu.rep
 obtain⟨gb,bb,cb,rfl,rb⟩:=rJ hv hc (hw.trans e)
 have:=dE hc (L:=p) (by rw[hw];exact hm)
 exact l8 w ga gb b 0 cap bb 0 cb _ xs rfl (by omega) hr rb
end Go.Proofs.YtgcnhfgpflncaaaGreatDoor
