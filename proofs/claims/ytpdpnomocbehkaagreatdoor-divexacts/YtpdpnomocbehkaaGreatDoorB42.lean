/- What the laws on package mul call themselves: a row as a natural, how many words it has, how deep products may go. -/
import Derived.Test.YtpdpnomocbehkaaGreatDoorB41
import Derived.Test.YtpdpnomocbehkaaGreatDoorB35
import Derived.Test.YtpdpnomocbehkaaGreatDoorB3
import Derived.Test.YtpdpnomocbehkaaGreatDoorB13
import Derived.Test.YtpdpnomocbehkaaGreatDoorB32
import Derived.Test.YtpdpnomocbehkaaGreatDoorB30
namespace Go.Proofs.YtpdpnomocbehkaaGreatDoor
open Go.RowKit
end Go.Proofs.YtpdpnomocbehkaaGreatDoor
/- What two tables' products cost. -/
namespace Go.Proofs.YtpdpnomocbehkaaGreatDoor
open Go.RowKit
theorem pH(T:Tab)(n m:Nat)(hn:n<=16384)(hm:m<=16384):0<=iI T (n:Int) (m:Int)/\iI T (n:Int) (m:Int)<=8*((n*m:Nat):Int):=by
 unfold iI
 rw[if_pos (by omega)]
 have h:=za T.ent (max n m+1) (max n m) (min n m) (by omega) (by omega)
 have e1:(max (n:Int) (m:Int)).toNat=max n m:=by omega
 have e2:(min (n:Int) (m:Int)).toNat=min n m:=by omega
 have e3:max n m*min n m=n*m:=by
  by_cases hc:m<=n
  ·rw[Nat.max_eq_left hc,Nat.min_eq_right hc]
  ·rw[Nat.max_eq_right (by omega),Nat.min_eq_left (by omega),Nat.mul_comm]
 rw[e1,e2]
 rw[e3]at h
 generalize eQ T.B T.D T.N (max n m) (min n m)=c at *
 generalize n*m=q at *
 omega
end Go.Proofs.YtpdpnomocbehkaaGreatDoor
/- What times and square,products and squares of rows as they are,come to;what is handed to Kara and Toom. -/
namespace Go.Proofs.YtpdpnomocbehkaaGreatDoor
open Go.RowKit
def ef(M:Nat):Prop:=∀(w:World) (gm gt gk ge g:Nat) (s l m:Int) (T:Tab) (ga gb:Option Addr) (b o cap la b' o' cap' lb:Nat) (xs ys:List Nat),
 aH w gm gt gk ge g s l m T->TB w->0<=s->s+35184372088832*((M:Int)+1)<=2305843009213693952->0<=l->l+(M:Int)<=100000->
 xs.length=la->Rep w ga b o cap xs->ao xs->ys.length=lb->Rep w gb b' o' cap' ys->ao ys->la<=M->lb<=M->
 Calls Tryz.prog 73 #[.pointer (some ⟨gm,0,none⟩),.slice ga la cap,.slice gb lb cap'] w fun e w'=>∃ r m',e=.returned r/\ah w.heap.size w' r (af xs*af ys)/\aH w' gm gt gk ge g (s+(eQ T.B T.D T.N (max la lb) (min la lb):Nat)) l m' T/\m<=m'/\m'<=max m (l+(mX (max la lb):Nat))/\Out (·=g) w w'
theorem jg{B D N n m:Nat}(e:BF B D N)(hm:m<=n)(hn:n<=16384):eQ B D N n m<=2147483648:=by
 have h:=za e (n+1) n m (by omega) hm
 have:n*m<=16384*16384:=Nat.mul_le_mul hn (by omega)
 omega
def acc(f:Nat->Nat):Nat->Nat
 |0=>0
 |i+1=>acc f i+f i
theorem yQ{f:Nat->Nat}{c:Nat}(h:∀ i,f i<=c):∀ i,acc f i<=i*c
 |0=>by simp[acc]
 |i+1=>by
  have:=yQ h i
  have:=h i
  rw[acc,Nat.succ_mul]
  omega
theorem aH.lts{w:World}{gm gt gk ge g:Nat}{s l m:Int}{T:Tab}(h:aH w gm gt gk ge g s l m T):gm<w.heap.size/\gt<w.heap.size/\gk<w.heap.size/\ge<w.heap.size/\g<w.heap.size:=
 ⟨h.lt,h.toom.lt,h.toom.kara.lt,World.block_lt_of_cell? _ _ h.eng.ptr,h.met.lt⟩
theorem aH.far{w W W':World}{gm gt gk ge g:Nat}{s l m s' l' m':Int}{T:Tab}(h:aH w gm gt gk ge g s l m T)(k:aH W gm gt gk ge g s' l' m' T)(o:Out (fun j=>w.heap.size<=j) W W'):aH W' gm gt gk ge g s' l' m' T:=by
 obtain⟨h0,h1,h2,h3,h4⟩:=h.lts
 exact k.out o (Nat.not_le.2 h0) (Nat.not_le.2 h1) (Nat.not_le.2 h2) (Nat.not_le.2 h3) (Nat.not_le.2 h4)
theorem TB.far{w W W':World}(h:TB w)(k:TB W)(o:Out (fun j=>w.heap.size<=j) W W'):TB W':=
 ⟨fun j hj=>o.cell (k.b j hj) (Nat.not_le.2 (World.block_lt_of_cell? _ _ (h.b j hj))),fun j hj=>o.cell (k.d j hj) (Nat.not_le.2 (World.block_lt_of_cell? _ _ (h.d j hj)))⟩
def FW(gm gt gk ge g:Nat)(s l m:Int)(T:Tab)(L:Nat)(f:Nat->Nat)(i:Nat)(W:World):Prop:=
 ∃ m1:Int,aH W gm gt gk ge g (s+(acc f i:Nat)) (l+1) m1 T/\max m (l+1)<=m1/\m1<=max m (l+1+(L:Nat))/\TB W
theorem FW.next{gm gt gk ge g:Nat}{s l m:Int}{T:Tab}{L:Nat}{f:Nat->Nat}{i:Nat}{W W':World}(h:FW gm gt gk ge g s l m T L f i W)(b:Below W.heap.size W W'):FW gm gt gk ge g s l m T L f i W':=by
 obtain⟨m1,h1,h2,h3,h4⟩:=h
 exact⟨m1,h1.next b,h2,h3,h4.next b⟩
theorem FW.far{w:World}{gm gt gk ge g:Nat}{s l m s0 l0 m0:Int}{T:Tab}{L:Nat}{f:Nat->Nat}{i:Nat}{W W':World}(hE:aH w gm gt gk ge g s0 l0 m0 T)(hT:TB w)(h:FW gm gt gk ge g s l m T L f i W)(o:Out (fun j=>w.heap.size<=j) W W'):FW gm gt gk ge g s l m T L f i W':=by
 obtain⟨m1,h1,h2,h3,h4⟩:=h
 exact⟨m1,hE.far h1 o,h2,h3,hT.far h4 o⟩
theorem FW.call{M:Nat}(IH:ef M){gm gt gk ge g:Nat}{s l m:Int}{T:Tab}{L:Nat}{f:Nat->Nat}{i:Nat}{W:World}(h:FW gm gt gk ge g s l m T L f i W)(hM:M<=16384)
  (h0:0<=s) (h1:s+35184372088832*((M:Int)+2)<=2305843009213693952) (h2:0<=l) (h3:l+1+(M:Int)<=100000) (ha:acc f i<=35184372088832) (hL:mX M<=L)
  {D:Nat->Prop} {u v:Value} {a c l1 l2:Nat} (hu:JQ D W u a l1) (hv:JQ D W v c l2) (k1:l1<=M) (k2:l2<=l1) (hf:f i=eQ T.B T.D T.N l1 l2):
  Calls Tryz.prog 73 #[.pointer (some ⟨gm,0,none⟩),u,v] W fun e W'=>∃ r,e=.returned r/\bm W.heap.size W' r (a*c)/\FW gm gt gk ge g s l m T L f (i+1) W'/\Out (·=g) W W':=by
 obtain⟨m1,E,q1,q2,tb⟩:=h
 have lu:=Hg hu
 have lv:=Hg hv
 obtain⟨ga,b,o,cap,xs,rfl,hl,hr,hd,rfl,_⟩:=hu
 obtain⟨gb,b',o',cap',ys,rfl,hl',hr',hd',rfl,_⟩:=hv
 refine(IH W gm gt gk ge g _ _ _ T ga gb b o cap l1 b' o' cap' l2 xs ys E tb (by omega) (by omega) (by omega) (by omega) hl hr hd hl' hr' hd' k1 (by omega)).mono ?_
 rintro e W' ⟨r,m2,rfl,nr,E2,q3,q4,oo⟩
 have hp:af xs*af ys<18446744073709551616^(l1+l2):=by rw[Nat.pow_add];exact Nat.mul_lt_mul'' lu lv
 have el:mX (max l1 l2)<=L:=Nat.le_trans (Ht (by omega) (by omega)) hL
 rw[Nat.max_eq_left k2,Nat.min_eq_right k2]at E2
 refine⟨r,rfl,nr.toI hp (by omega),⟨m2,?_,by omega,by omega,E.tb oo tb⟩,oo⟩
 rw[acc,hf,Int.natCast_add, <-Int.add_assoc]
 exact E2
def pe(w:World)(gm gt gk ge g:Nat)(s l m:Int)(T:Tab)(P C L:Nat)(e:Ending)(w':World):Prop:=
 ∃ r m',e=.returned (.tuple #[r,.bool true])/\ah w.heap.size w' r P/\aH w' gm gt gk ge g (s+(C:Nat)) l m' T/\m<=m'/\m'<=max m (l+(L:Nat))/\Out (·=g) w w'
def cX(w:World)(gm gt gk ge g:Nat)(s l m:Int)(T:Tab)(P C L:Nat)(r:Value)(w':World):Prop:=
 ∃ m',ah w.heap.size w' r P/\aH w' gm gt gk ge g (s+(C:Nat)) l m' T/\m<=m'/\m'<=max m (l+(L:Nat))/\Out (·=g) w w'
theorem lG{w:World}{gm gt gk ge g:Nat}{s l m:Int}{T:Tab}{P C L:Nat}{e:Ending}{w':World}(h:pe w gm gt gk ge g s l m T P C L e w'):∃ r,e=.returned (.tuple #[r,.bool true])/\cX w gm gt gk ge g s l m T P C L r w':=by
 obtain⟨r,m',h1,h2⟩:=h
 exact⟨r,h1,m',h2⟩
def wW(B D N n m h:Nat)(i:Nat):Nat:=if i=0 then eQ B D N h h else if i=1 then eQ B D N (n-h) (m-h) else eQ B D N (h+1) (h+1)
def yi(B D N n m h:Nat)(i:Nat):Nat:=if i=0 then eQ B D N h h else if i=4 then eQ B D N (n-2*h) (m-2*h) else eQ B D N (h+1) (h+1)
theorem Hr{B D N n m h:Nat}(e:BF B D N)(hm:m<=n)(hn:n<=16384)(hh:h+1<=16384)(i:Nat):wW B D N n m h i<=2147483648:=by
 unfold wW
 split
 ·exact jg e (Nat.le_refl _) (by omega)
 ·split
  ·exact jg e (by omega) (by omega)
  ·exact jg e (Nat.le_refl _) (by omega)
theorem Jj{B D N n m h:Nat}(e:BF B D N)(hm:m<=n)(hn:n<=16384)(hh:h+1<=16384)(i:Nat):yi B D N n m h i<=2147483648:=by
 unfold yi
 split
 ·exact jg e (Nat.le_refl _) (by omega)
 ·split
  ·exact jg e (by omega) (by omega)
  ·exact jg e (Nat.le_refl _) (by omega)
end Go.Proofs.YtpdpnomocbehkaaGreatDoor
/- Kara,Toom,the hand and transforms,handed the engine's own products. -/
namespace Go.Proofs.YtpdpnomocbehkaaGreatDoor
open Go.RowKit
theorem wt(args:Array Value)(W:World):(callFunc 73 args).run Tryz.prog W=.ok (.enter 73 args) W:=by
 kernel_rfl
theorem vH(p u v:Value):#[p]++#[u,v]++#[]=#[p,u,v]:=by simp
theorem IE{g:Nat}{a b:World}(o:Out (·=g) a b):Out (fun j=>False\/j=g) a b:=o.mono (fun _ e=>Or.inr e)
theorem IF{g:Nat}{a b:World}(o:Out (fun j=>False\/j=g) a b):Out (·=g) a b:=o.mono (fun _ e=>e.resolve_left id)
theorem zr{M:Nat}(IH:ef M)(hM:M<=16384){w:World}{gm gt gk ge g:Nat}{s l m:Int}{T:Tab}(hE:aH w gm gt gk ge g s l m T)(hT:TB w)
  (h0:0<=s) (h1:s+35184372088832*((M:Int)+2)<=2305843009213693952) (h2:0<=l) (h3:l+1+(M:Int)<=100000)
  {ga gb:Option Addr} {b o cap la b' o' cap' lb h:Nat} {xs ys:List Nat} (hxl:xs.length=la) (hR:Rep w ga b o cap xs) (hdx:ao xs) (hyl:ys.length=lb) (hR':Rep w gb b' o' cap' ys) (hdy:ao ys) (hla:la<=16384) (hlb:lb<=16384)
  (hh:h=(max la lb+1)/2) (hlt:h<min la lb) (hp:h+1<=M):
  Calls Tryz.prog 121 #[.pointer (some ⟨gk,0,none⟩),.slice ga la cap,.slice gb lb cap',.func (.func 73) #[.pointer (some ⟨gm,0,none⟩)] #[]] w
   (pe w gm gt gk ge g s l m T (af xs*af ys) (fN T.B T.D T.N 3 (max la lb) (min la lb)) (mX M+1)):=by
 have ac:=yQ (Hr T.ent (n:=max la lb) (m:=min la lb) (h:=h) (by omega) (by omega) (by omega))
 refine(EL w gk ge g s l m T ga gb b o cap la b' o' cap' lb h xs ys 73 #[.pointer (some ⟨gm,0,none⟩)] #[] (fun _=>False) (FW gm gt gk ge g s l m T (mX M) (wW T.B T.D T.N (max la lb) (min la lb) h))
  hE.toom.kara h2 (by omega) hxl hR hdx (fun _ x=>x) hyl hR' hdy (fun _ x=>x) hla hlb hh hlt (fun x=>x) (fun x=>x) (fun x=>x) (fun _ x=>x.elim) ⟨wt,fun i W W' st b=>st.next b,fun i W st=>?_,fun i W u v a c hi st iu iv=>?_⟩ (fun W oo K=>?_)).mono ?_
 ·obtain⟨m1,E,_,_,_⟩:=st
  exact⟨_,m1,E.toom.kara⟩
 ·rw[vH]
  have ai:=ac i
  have hi2:i*2147483648<=3*2147483648:=Nat.mul_le_mul_right _ (by omega)
  refine(st.call IH hM h0 h1 h2 h3 (by omega) (Nat.le_refl _) iu iv ?_ ?_ ?_).mono ?_
  ·clear ai hi2 ac st
   match i,hi with
   |0,_=>show h<=M;omega
   |1,_=>show max la lb-h<=M;omega
   |2,_=>show h+1<=M;omega
  ·clear ai hi2 ac st
   match i,hi with
   |0,_=>show h<=h;omega
   |1,_=>show min la lb-h<=max la lb-h;omega
   |2,_=>show h+1<=h+1;omega
  ·clear ai hi2 ac st
   match i,hi with
   |0,_=>rfl
   |1,_=>rfl
   |2,_=>rfl
  ·rintro e W' ⟨r,rfl,nr,st',oo⟩
   exact⟨r,rfl,nr,st',IE oo⟩
 ·exact⟨_,by rw[acc,Int.natCast_zero,Int.add_zero];exact hE.kept oo (hE.toom.kept oo K),Int.le_refl _,by omega,hE.tb oo hT⟩
 ·rintro e w' ⟨v,W,rfl,nv,⟨m1,E,q1,q2,tb⟩,o1,hk,o2⟩
  have o3:=IF o2
  have K':=hk _ _ E.toom.kara
  have ec:acc (wW T.B T.D T.N (max la lb) (min la lb) h) 3=fN T.B T.D T.N 3 (max la lb) (min la lb):=by
   subst hh
   simp[acc,wW,fN]
  rw[ec]at K'
  exact⟨v,m1,rfl,nv,hE.kept o3 (hE.toom.kept o3 K'),by omega,by omega,o3⟩
theorem Ab{M:Nat}(IH:ef M)(hM:M<=16384){w:World}{gm gt gk ge g:Nat}{s l m:Int}{T:Tab}(hE:aH w gm gt gk ge g s l m T)(hT:TB w)
  (h0:0<=s) (h1:s+35184372088832*((M:Int)+2)<=2305843009213693952) (h2:0<=l) (h3:l+1+(M:Int)<=100000)
  {ga gb:Option Addr} {b o cap la b' o' cap' lb h:Nat} {xs ys:List Nat} (hxl:xs.length=la) (hR:Rep w ga b o cap xs) (hdx:ao xs) (hyl:ys.length=lb) (hR':Rep w gb b' o' cap' ys) (hdy:ao ys) (hla:la<=16384) (hlb:lb<=16384)
  (hh:h=(max la lb+2)/3) (hlt:2*h<min la lb) (hp:h+1<=M):
  Calls Tryz.prog 122 #[.pointer (some ⟨gt,0,none⟩),.slice ga la cap,.slice gb lb cap',.func (.func 73) #[.pointer (some ⟨gm,0,none⟩)] #[]] w
   (pe w gm gt gk ge g s l m T (af xs*af ys) (fN T.B T.D T.N 4 (max la lb) (min la lb)) (mX M+1)):=by
 have ac:=yQ (Jj T.ent (n:=max la lb) (m:=min la lb) (h:=h) (by omega) (by omega) (by omega))
 refine(EU w gt gk ge g s l m T ga gb b o cap la b' o' cap' lb h xs ys 73 #[.pointer (some ⟨gm,0,none⟩)] #[] (fun _=>False) (FW gm gt gk ge g s l m T (mX M) (yi T.B T.D T.N (max la lb) (min la lb) h))
  hE.toom h2 (by omega) hxl hR hdx (fun _ x=>x) hyl hR' hdy (fun _ x=>x) hla hlb hh hlt (fun x=>x) (fun x=>x) (fun x=>x) (fun x=>x) (fun _ x=>x.elim) ⟨wt,fun i W W' st oo=>st.far hE hT oo,fun i W st=>?_,fun i W u v a c hi st iu iv=>?_⟩ (fun W oo K=>?_)).mono ?_
 ·obtain⟨m1,E,_,_,_⟩:=st
  exact⟨_,m1,E.toom⟩
 ·rw[vH]
  have ai:=ac i
  have hi2:i*2147483648<=5*2147483648:=Nat.mul_le_mul_right _ (by omega)
  refine(st.call IH hM h0 h1 h2 h3 (by omega) (Nat.le_refl _) iu iv ?_ ?_ ?_).mono ?_
  ·clear ai hi2 ac st
   match i,hi with
   |0,_=>show h<=M;omega
   |1,_=>show h+1<=M;omega
   |2,_=>show h+1<=M;omega
   |3,_=>show h+1<=M;omega
   |4,_=>show max la lb-2*h<=M;omega
  ·clear ai hi2 ac st
   match i,hi with
   |0,_=>show h<=h;omega
   |1,_=>show h+1<=h+1;omega
   |2,_=>show h+1<=h+1;omega
   |3,_=>show h+1<=h+1;omega
   |4,_=>show min la lb-2*h<=max la lb-2*h;omega
  ·clear ai hi2 ac st
   match i,hi with
   |0,_=>rfl
   |1,_=>rfl
   |2,_=>rfl
   |3,_=>rfl
   |4,_=>rfl
  ·rintro e W' ⟨r,rfl,nr,st',oo⟩
   exact⟨r,rfl,nr,st',IE oo⟩
 ·exact⟨_,by rw[acc,Int.natCast_zero,Int.add_zero];exact hE.kept oo K,Int.le_refl _,by omega,hE.tb oo hT⟩
 ·rintro e w' ⟨v,W,rfl,nv,⟨m1,E,q1,q2,tb⟩,o1,hk,o2⟩
  have o3:=IF o2
  have K':=hk _ _ E.toom
  have ec:acc (yi T.B T.D T.N (max la lb) (min la lb) h) 5=fN T.B T.D T.N 4 (max la lb) (min la lb):=by
   subst hh
   simp[acc,yi,fN]
   omega
  rw[ec]at K'
  exact⟨v,m1,rfl,nv,hE.kept o3 K',by omega,by omega,o3⟩
theorem xh(n m:Nat):max n m*min n m=n*m:=by
 by_cases hc:m<=n
 ·rw[Nat.max_eq_left hc,Nat.min_eq_right hc]
 ·rw[Nat.max_eq_right (by omega),Nat.min_eq_left (by omega),Nat.mul_comm]
theorem PK(n m k:Nat):tf (max n m) (min n m) k=tf n m k:=by
 by_cases hc:m<=n
 ·rw[Nat.max_eq_left hc,Nat.min_eq_right hc]
 ·rw[Nat.max_eq_right (by omega),Nat.min_eq_left (by omega),MH]
theorem uN{w:World}{gm gt gk ge g:Nat}{s l m:Int}{T:Tab}(hE:aH w gm gt gk ge g s l m T)(h0:0<=s)(h1:s<=2305843009213693952)
  {ga gb:Option Addr} {b o cap la b' o' cap' lb:Nat} {xs ys:List Nat} (hxl:xs.length=la) (hR:Rep w ga b o cap xs) (hdx:ao xs) (hyl:ys.length=lb) (hR':Rep w gb b' o' cap' ys) (hdy:ao ys) (hla:la<=16384) (hlb:lb<=16384):
  Calls Tryz.prog 120 #[.pointer (some ⟨ge,0,none⟩),.slice ga la cap,.slice gb lb cap'] w fun e w'=>∃ r,e=.returned r/\cX w gm gt gk ge g s l m T (af xs*af ys) (fN T.B T.D T.N 1 (max la lb) (min la lb)) 0 r w':=by
 have iu:PN g w (.slice ga la cap) (af xs) la:=⟨_,_,_,_,xs,rfl,hxl,hR,hdx,rfl,by rw[<-hxl];exact hE.eng.away hR⟩
 have iv:PN g w (.slice gb lb cap') (af ys) lb:=⟨_,_,_,_,ys,rfl,hyl,hR',hdy,rfl,by rw[<-hyl];exact hE.eng.away hR'⟩
 refine(xT hE.eng _ _ _ _ la lb iu iv (by omega) (by omega) h0 (by omega)).mono ?_
 rintro e w' ⟨r,rfl,k1,k2,k3⟩
 have ec:fN T.B T.D T.N 1 (max la lb) (min la lb)=la*lb:=by
  simp only[fN,if_true]
  exact xh la lb
 rw[ec]
 exact⟨r,rfl,m,k1,hE.step k2.met k3,Int.le_refl _,by omega,Out.of_grown k3.grown⟩
theorem y8{w:World}{gm gt gk ge g:Nat}{s l m:Int}{T:Tab}(hE:aH w gm gt gk ge g s l m T)(hT:TB w)(h0:0<=s)(h1:s<=2305843009213693952)
  {ga gb:Option Addr} {b o cap la b' o' cap' lb:Nat} {xs ys:List Nat} (hxl:xs.length=la) (hR:Rep w ga b o cap xs) (hdx:ao xs) (hyl:ys.length=lb) (hR':Rep w gb b' o' cap' ys) (hdy:ao ys) (hla:la<=16384) (hlb:lb<=16384) (ha:1<=la) (hb:1<=lb):
  Calls Tryz.prog 123 #[.pointer (some ⟨g,0,none⟩),.slice ga la cap,.slice gb lb cap'] w (pe w gm gt gk ge g s l m T (af xs*af ys) (fN T.B T.D T.N 5 (max la lb) (min la lb)) 0):=by
 refine(vO w g 0 s l m ga gb b o cap la b' o' cap' lb xs ys hT hE.met h0 h1 hxl hR hdx hyl hR' hdy ha hla hb hlb).mono ?_
 rintro e w' ⟨r,rfl,k1,k2,k3⟩
 have ec:fN T.B T.D T.N 5 (max la lb) (min la lb)=tf la lb 3:=by
  simp[fN]
  exact PK la lb 3
 rw[pe,ec]
 exact⟨r,m,rfl,k1,hE.step k2 k3,Int.le_refl _,by omega,Out.of_grown k3.grown⟩
end Go.Proofs.YtpdpnomocbehkaaGreatDoor
/- KaraSqr,ToomSqr,squares by hand and by transforms,handed the engine's own squares. -/
namespace Go.Proofs.YtpdpnomocbehkaaGreatDoor
open Go.RowKit
end Go.Proofs.YtpdpnomocbehkaaGreatDoor
/- What the laws on package div call themselves:a row as a natural,how many words it has;the example of the document. -/
namespace Go.Proofs.YtpdpnomocbehkaaGreatDoor
open Go.RowKit
set_option maxHeartbeats 1600000 in
theorem bR(w:World)(ga:Option Addr)(b o cap n A:Nat)(us:List Nat)(hl:us.length=n)(hn:n<=1073741824)(hR:Rep w ga b o cap us)(hd:ao us)(hA:A=af us):
  Calls Tryz.prog 16 #[.slice ga n cap] w fun e w'=>∃ v,e=.returned v/\bu w' v A/\Below w.heap.size w w':=by
 subst hl
 have CF:=hide (GZ w ga b o cap us (by omega) hR (JE hd))
 rw[<-hA]at CF
 clear hA
 generalize us.length=n at *
 go_enter Tryz.func16,Tryz.ntmps16
 go_wp2_with fail
 refine(ae CF).mono ?_
 rintro e w1 ⟨v,rfl,h1,h2⟩
 clear CF
 go_wp2
 go_ret
 exact⟨v,rfl,h1,h2⟩
theorem kA(w:World)(v:Value)(n B p:Nat)(hp:p<=100000)(hn:n<18446744073709551616^p)(h:ah B w v n):
  Calls Tryz.prog 16 #[v] w fun e w'=>∃ r,e=.returned r/\bu w' r n/\Below w.heap.size w w':=by
 obtain⟨ga,b,cap,xs,rfl,hr,hc,hv,_⟩:=h.rep
 have:=dV hc (L:=p) (by rw[hv];exact hn)
 exact bR w ga b 0 cap xs.length n xs rfl (by omega) hr hc.1 hv.symm
theorem pQ(w:World)(v:Value)(n:Nat)(h:aX w v n):
  Calls Tryz.prog 16 #[v] w fun e w'=>∃ r,e=.returned r/\bu w' r n/\Below w.heap.size w w':=by
 obtain⟨ga,b,o,cap,xs,rfl,hr,hd,hv,hl⟩:=h
 exact bR w ga b o cap xs.length n xs rfl (by omega) hr hd hv.symm
set_option maxHeartbeats 1600000 in
theorem bo(w:World)(ga:Option Addr)(b o cap n A:Nat)(us:List Nat)(hl:us.length=n)(hn:n<=1073741824)(hR:Rep w ga b o cap us)(hd:ao us)(hA:A=af us):
  Calls Tryz.prog 13 #[.slice ga n cap] w fun e w'=>e=.returned (.int .i64 (wl A:Int))/\w'=w:=by
 have CL:=hide (len_any w ga b o cap n us hl (by omega) hR)
 rw[<-hl,mF hd, <-hA,hl]at CL
 clear hl hn hR hd hA
 generalize wl A=L at *
 go_enter Tryz.func13,Tryz.ntmps13
 go_wp2_with fail
 refine(ae CL).mono ?_
 rintro e w1 ⟨rfl,hw⟩
 obtain rfl:=hw.symm
 clear CL hw
 go_wp2
 go_ret
 exact⟨rfl,rfl⟩
theorem D8{B:Nat}{w:World}{v:Value}(h:ah B w v 0):∃ ga cap,v=.slice ga 0 cap:=by
 obtain⟨ga,b,cap,xs,rfl,hr,hc,hv,_⟩:=h.rep
 have:xs=[]:=by
  have e:=iq hc kg (by rw[hv];rfl)
  exact e
 subst this
 exact⟨ga,cap,rfl⟩
set_option maxRecDepth 100000 in
set_option maxHeartbeats 6400000 in
theorem aM(SN:fw)(SD:df)(w:World)(hT:TB w):Calls Tryz.prog 14 #[] w fun e w'=>e=.returned (.bool true)/\Below w.heap.size w w':=by
 have CN:=hide (fun w=>SN ⟨0,0,0,0,0,0,0,0,0,0,0⟩ w)
 unfold Tab.val at CN
 have HSD:=hide SD
 have HT:=hide hT
 clear SN SD hT
 go_enter Tryz.func14,Tryz.ntmps14
 go_wp2_with fail
 refine(ae CN _).mono ?_
 rintro e w1 ⟨gv,gr,gd,gm,gt,gk,ge,g,rfl,E,hn,b⟩
 have bl:=b
 have hg:w.heap.size<=g:=by omega
 have d1:Below w1.heap.size w1 (w1.alloc (.cells #[.int .u64 7] 90)):=(Below.refl _ _).alloc (Nat.le_refl _) _
 have d2:Below (w1.alloc (.cells #[.int .u64 7] 90)).heap.size (w1.alloc (.cells #[.int .u64 7] 90)) ((w1.alloc (.cells #[.int .u64 7] 90)).alloc (.cells #[.int .u64 9] 90)):=(Below.refl _ _).alloc (Nat.le_refl _) _
 have z1:(w1.alloc (.cells #[.int .u64 7] 90)).heap.size=w1.heap.size+1:=by simp
 have i1:=(AK w1 7 (by decide)).next d2
 have i2:=AK (w1.alloc (.cells #[.int .u64 7] 90)) 9 (by decide)
 rw[z1]at i2
 have E2:=(E.next d1).next d2
 have b2:=hide (ag (ag bl d1) d2)
 have w7:wl 7<=250:=Nat.le_trans (cI 1 7 (by decide)) (by decide)
 have w9:wl 9<=250:=Nat.le_trans (cI 1 9 (by decide)) (by decide)
 have CP:=hide (ae HSD _ gv gr gd gm gt gk ge g 0 0 0 _ _ _ 7 9 E2 ((ae HT).next (ae b2)) (by decide) (by decide) (by decide) (by decide) i1 i2 (by decide) w7 w9)
 clear d1 d2 E b bl hn CN z1 i1 i2 E2 HSD w7 w9
 go_wp2_with fail
 refine(ae CP).mono ?_
 generalize ((w1.alloc (.cells #[.int .u64 7] 90)).alloc (.cells #[.int .u64 9] 90))=W2 at *
 rintro e w5 ⟨q,r,gq,gx,s',m',rfl,nq,nr,_,_,_,_,o⟩
 have nr:ah gx w5 r 7:=nr.toW
 have nq:ah gq w5 q 0:=nq.toW
 have b5:=hide ((ae b2).trans (o.below (B:=w.heap.size) (ae b2).size (fun k hk=>by rw[hk];exact hg)))
 have CS:=hide (Ja w5 _ 7 r (by decide) (by decide) nr)
 obtain⟨qa,qc,rfl⟩:=D8 nq
 obtain⟨ra,rl,rc,rfl⟩:=nr.shape
 clear CP b2 nr nq o
 go_wp2_with fail
 refine(ae CS).mono ?_
 rintro e w6 ⟨rfl,b6⟩
 have bl:=ag (ae b5) b6
 clear CS b5 b6
 go_wp2
 go_ret
 exact⟨rfl,bl⟩
end Go.Proofs.YtpdpnomocbehkaaGreatDoor
/- Steps of the laws on package mul:what is spent only bounded;what is answered,as a natural of the reference. -/
namespace Go.Proofs.YtpdpnomocbehkaaGreatDoor
open Go.RowKit
theorem Jz{x p L:Nat}(h:x<18446744073709551616^p)(hp:p<=L):x<4294967296^(2*L):=by
 rw[<-fo]
 exact aP h hp
theorem aX.wl_le{w:World}{v:Value}{n:Nat}(h:aX w v n):wl n<=16384:=by
 obtain⟨ga,b,o,cap,xs,rfl,hr,hd,hv,hl⟩:=h
 rw[<-hv]
 exact Nat.le_trans (aW hd) hl
theorem aY.shp{w:World}{v:Value}{n:Nat}(h:aY w v n):∃ g l c,v=.slice g l c:=by
 obtain⟨ga,b,o,cap,xs,rfl,_⟩:=h
 exact⟨_,_,_,rfl⟩
theorem wh(SM:px)(w:World)(gm gt gk ge g:Nat)(s l m:Int)(T:Tab)(u v:Value)(A C:Nat)(hE:aH w gm gt gk ge g s l m T)(hT:TB w)(h0:0<=s)(h1:s<=576460752303423488)(h2:0<=l)(h3:l<=1000)(hu:aX w u A)(hv:aX w v C):
  Calls Tryz.prog 39 #[.pointer (some ⟨gm,0,none⟩),u,v] w fun e w'=>∃ r s' m',e=.returned r/\ah w.heap.size w' r (A*C)/\aH w' gm gt gk ge g s' l m' T/\0<=s'/\s'<=s+4294967296/\Out (·=g) w w':=by
 refine(SM w gm gt gk ge g s l m T u v A C hE hT h0 (by omega) h2 h3 hu hv).mono ?_
 rintro e w' ⟨r,m',rfl,nr,E,_,_,o⟩
 have c:=pH T (wl A) (wl C) hu.wl_le hv.wl_le
 have q:wl A*wl C<=16384*16384:=Nat.mul_le_mul hu.wl_le hv.wl_le
 refine⟨r,_,m',rfl,nr,E,?_,?_,o⟩
 ·omega
 ·omega
theorem qH(w:World)(v:Value)(n p:Nat)(hp:p<=16384)(hn:n<18446744073709551616^p)(h:bu w v n):
  Calls Tryz.prog 31 #[v] w fun e w'=>∃ r,e=.returned r/\aX w' r n/\Below w.heap.size w w':=by
 refine(OP w v n p (by omega) hn h).mono ?_
 rintro e w' ⟨ga,b,cap,ws,l,rfl,rfl,hl,hr,hd,hv,bb⟩
 exact⟨_,rfl,⟨ga,b,0,cap,ws,rfl,hr,hd,hv,by omega⟩,bb⟩
end Go.Proofs.YtpdpnomocbehkaaGreatDoor
/- Two answers that say the same number have the same words. -/
namespace Go.Proofs.YtpdpnomocbehkaaGreatDoor
open Go.RowKit
theorem fH(w:World)(u v:Value)(m n B C p:Nat)(hp:p<=1073741824)(hm:m<18446744073709551616^p)(e:m=n)(hu:ah B w u m)(hv:ah C w v n):
  Calls Tryz.prog 28 #[u,v] w fun e w'=>e=.returned (.bool true)/\Below w.heap.size w w':=by
 obtain⟨ga,b,cap,xs,rfl,hr,hc,hw,_⟩:=hu.rep
 obtain⟨gb,bb,cb,rfl,rb⟩:=sD hv hc (hw.trans e)
 have:=dV hc (L:=p) (by rw[hw];exact hm)
 exact fV w ga gb b 0 cap bb 0 cb _ xs rfl (by omega) hr rb
end Go.Proofs.YtpdpnomocbehkaaGreatDoor
