/- half of the landed package div: three halves by two. -/
import Derived.Deep.RegionHeld3
import Derived.Test.YtpdpnomocbehkaaGreatDoorB45
import Derived.Test.YtpdpnomocbehkaaGreatDoorB34
import Derived.Test.YtpdpnomocbehkaaGreatDoorB12
import Derived.Test.YtpdpnomocbehkaaGreatDoorB43
import Derived.Lib.BitFns
import Derived.Test.YtpdpnomocbehkaaGreatDoorB5
import Derived.Test.YtpdpnomocbehkaaGreatDoorB44
namespace Go.Proofs.YtpdpnomocbehkaaGreatDoor
open Go.RowKit
def iF(n:Nat):Nat:=Lib.bitLen (n-1)
theorem He{n:Nat}(h:2<=n)(hn:n<=16384):iF (n-n/2)+1=iF n:=by
 unfold iF
 rw[Lib.bitLen_half (n-1) (by omega) (by omega),show n-n/2-1=(n-1)/2 by omega,Nat.add_comm]
theorem zl{n:Nat}(hn:n<=16384):iF n<=16:=jc (by omega)
def jC(w:World)(gv gr gd gm gt gk ge g:Nat)(s l m:Int)(T:Tab)(A C K M:Nat)(e:Ending)(w':World):Prop:=
 ∃ q r gq gx s' m',e=.returned (.tuple #[q,r])/\aO gq (gq+1) w' q (A/C)/\aO gx (gx+1) w' r (A%C)/\(gq≠gx/\w.heap.size<=gq/\w.heap.size<=gx)/\aw w' gv gr gd gm gt gk ge g s' l m' T/\s<=s'/\s'<=s+(K:Int)/\m<=m'/\m'<=max m (l+(M:Int))/\Out (·=g) w w'
def Ai(f:Nat):Prop:=∀(w:World) (gv gr gd gm gt gk ge g:Nat) (s l m:Int) (T:Tab) (u v:Value) (A C:Nat),
 aw w gv gr gd gm gt gk ge g s l m T->TB w->0<=s->s+(hF f (wl C) (wl (A/C)):Int)<=1143914305352105984->0<=l->l+(iF (wl C):Int)<=1000->d6 w u A->d6 w v C->0<C->wl C<=f->
 Calls Tryz.prog 52 #[.pointer (some ⟨gv,0,none⟩),u,v] w (jC w gv gr gd gm gt gk ge g s l m T A C (hF f (wl C) (wl (A/C))) (iF (wl C)+dI (wl C)))
theorem pg.next{w w':World}{v:Value}{n k:Nat}(h:pg w v n k)(b:Below w.heap.size w w'):pg w' v n k:=by
 obtain⟨ga,b',o,cap,xs,hv,hl,hr,hd,hx⟩:=h
 exact⟨ga,b',o,cap,xs,hv,hl,hr.next b,hd,hx⟩
theorem aw.inL2{w w':World}{gv gr gd gm gt gk ge g:Nat}{s l m:Int}{T:Tab}(h:aw w gv gr gd gm gt gk ge g s l m T)(o:Out (·=g) w w'){v:Value}{n k:Nat}(r:pg w v n k):pg w' v n k:=by
 obtain⟨ga,b',oo,cap,xs,hv,hl,hr,hd,hx⟩:=r
 exact⟨ga,b',oo,cap,xs,hv,hl,h.rep o hr,hd,hx⟩
theorem y6{B:Nat}(w:World)(u v:Value)(A C k:Nat)(hu:pg w u A k)(hk:k<=16384)(hv:ah B w v C)(hC:wl C<=16384):
  Calls Tryz.prog 79 #[.slice (some ⟨w.heap.size,0,none⟩) 2 2] (w.alloc (.cells #[u,v] 29)) fun e w'=>∃ r,e=.returned r/\bm w.heap.size w' r (A+18446744073709551616^k*C)/\Below w.heap.size w w':=by
 obtain⟨ga,b,o,cap,xs,hv',hl,hr,hd,hx⟩:=hu
 refine y7 w u v A C k ga b o cap xs hv' hl hr hd hx (hv.wlW (by omega)) hk ?_
 intro ys ⟨gb,b',o',cap',e,_⟩ _ _
 obtain⟨gc,_,cc,zs,e2,_,hc,hz,_⟩:=hv.rep
 rw[e]at e2
 have e3:ys.length=zs.length:=by injection e2
 have:=fm hc
 rw[hz]at this
 omega
theorem JI(a b:Nat):wl (a+b)<=wl a+wl b+1:=by
 refine cI _ _ ?_
 have h1:=eU (n:=a) (l:=wl a) (Nat.le_refl _)
 have h2:=eU (n:=b) (l:=wl b) (Nat.le_refl _)
 have h3:18446744073709551616^wl a<=18446744073709551616^(wl a+wl b):=Nat.pow_le_pow_right (by omega) (by omega)
 have h4:18446744073709551616^wl b<=18446744073709551616^(wl a+wl b):=Nat.pow_le_pow_right (by omega) (by omega)
 rw[Nat.pow_succ]
 omega
theorem ah.toJ{B:Nat}{w:World}{v:Value}{n:Nat}(h:ah B w v n)(hn:wl n<=1073741824):bm B w v n:=h.toI (eU hn) (Nat.le_refl _)
theorem d6.low{w:World}{b o n cb C h:Nat}(hv:d6 w (.slice (some ⟨b,o,none⟩) n cb) C)(h0:0<n)(hh:h<=n):aX w (.slice (some ⟨b,o,none⟩) h cb) (C%18446744073709551616^h):=by
 have hw:=hv.wlM
 obtain⟨xs,hl,hr,hc,hx⟩:=hv.head h0
 have e:=fm hc
 rw[hx]at e
 have hlen:(xs.take h).length=h:=by simp;omega
 exact⟨_,b,o,cb,xs.take h,by rw[hlen],hr.take h (by omega),bj hc.1 h,by rw[yh hc.1,hx],by omega⟩
def tq(w:World)(gv gr gd gm gt gk ge g:Nat)(s l m:Int)(T:Tab)(X C K M:Nat)(e:Ending)(w':World):Prop:=
 ∃ q r s' m',e=.returned (.tuple #[q,r])/\ah w.heap.size w' q (X/C)/\ah w.heap.size w' r (X%C)/\aw w' gv gr gd gm gt gk ge g s' l m' T/\s<=s'/\s'<=s+(K:Int)/\m<=m'/\m'<=max m (l+(M:Int))/\Out (·=g) w w'
set_option maxRecDepth 100000 in
set_option maxHeartbeats 6400000 in
theorem Dp(f:Nat)(IH:Ai f)(w:World)(gv gr gd gm gt gk ge g:Nat)(s l m:Int)(T:Tab)(u v d:Value)(x y C n h:Nat)
  (hE:aw w gv gr gd gm gt gk ge g s l m T) (hT:TB w) (h0:0<=s) (h1:s+(eF (f+1) n:Int)<=1143914305352105984) (h2:0<=l) (h3:l+(iF (n-h):Int)<=1000)
  (hu:pg w u x h) (hv:d6 w v y) (hd:d6 w d C) (hy:y<C) (hn:n=wl C) (hh:h=n/2) (hn2:2<=n) (hf:n-h<=f):
  Calls Tryz.prog 83 #[.pointer (some ⟨gv,0,none⟩),u,v,d] w (tq w gv gr gd gm gt gk ge g s l m T (y*18446744073709551616^h+x) C (eF (f+1) n) (iF (n-h)+dI n)):=by
 have wC:=hd.wlM
 rw[<-hn]at wC
 have hC0:0<C:=by omega
 obtain⟨C1,hC1⟩:∃ C1,C1=C/18446744073709551616^h:=⟨_,rfl⟩
 obtain⟨C0,hC0e⟩:∃ C0,C0=C%18446744073709551616^h:=⟨_,rfl⟩
 have hCe:C=C0+18446744073709551616^h*C1:=by rw[hC1,hC0e,Nat.add_comm];exact(Nat.div_add_mod _ _).symm
 have hC0l:C0<18446744073709551616^h:=by rw[hC0e];exact Nat.mod_lt _ (fb h)
 obtain⟨gb,b,o,cb,rfl,hcb,hgb⟩:=hd.is
 rw[<-hn]at hd hcb hgb ⊢
 obtain rfl:=hgb (by omega)
 obtain⟨cc,hcc⟩:∃ cc,cb-h=cc:=⟨_,rfl⟩
 obtain⟨p,hp⟩:∃ p,n-h=p:=⟨_,rfl⟩
 have hup:∀ W,d6 W (.slice (some ⟨b,o,none⟩) n cb) C->d6 W (.slice (some ⟨b,o+h,none⟩) p cc) C1:=fun W hW=>by rw[hC1];exact hW.above (by omega) (by omega) hcc.symm
 have hlo:∀ W,d6 W (.slice (some ⟨b,o,none⟩) n cb) C->aX W (.slice (some ⟨b,o,none⟩) h cb) C0:=fun W hW=>by rw[hC0e];exact hW.low (by omega) (by omega)
 have wC1:wl C1=p:=by
  obtain⟨_,_,_,_,e,_,_⟩:=(hup w hd).is
  injection e with _ e2 _
  exact e2.symm
 have hC1p:0<C1:=by
  refine Nat.pos_of_ne_zero fun e=>?_
  rw[e,aZ]at wC1
  omega
 have wC0:wl C0<=h:=cI _ _ hC0l
 have wq:wl (y/C1)<=h+1:=Pg hC1p hCe hC0l hy
 have wr:wl (y%C1)<=16384:=by
  have:=aS (Nat.le_of_lt (Nat.mod_lt y hC1p))
  omega
 have hx:x<18446744073709551616^h:=by
  obtain⟨_,_,_,_,xs,_,e1,_,e2,e3⟩:=hu
  rw[<-e3, <-e1]
  exact ak e2
 obtain⟨st1,st2⟩:=GY (Hi:=y) (fb h) hC1p hCe hx
 obtain⟨X,hX⟩:∃ X,X=y*18446744073709551616^h+x:=⟨_,rfl⟩
 rw[<-hX]at st1 st2 ⊢
 -- what is spent
 obtain⟨K1,hK1⟩:∃ K1,K1=hF f p (wl (y/C1)):=⟨_,rfl⟩
 have hK:K1+8*(wl (y/C1)*wl C0)<=eF (f+1) n:=by
  rw[AE, <-hh,hp,hK1]
  have a1:hF f p (wl (y/C1))<=hF f p (h+1):=by
   unfold hF
   have b1:(wl (y/C1)+1)*(p+1)<=(h+1+1)*(p+1):=Nat.mul_le_mul_right _ (by omega)
   have b2:cd (wl (y/C1)) (p/2)*eF f p<=cd (h+1) (p/2)*eF f p:=Nat.mul_le_mul_right _ (J6 wq)
   omega
  have a2:wl (y/C1)*wl C0<=(h+1)*h:=Nat.mul_le_mul wq wC0
  omega
 have hlvp:=zl (n:=p) (by omega)
 have CH:=hide (IH w gv gr gd gm gt gk ge g s l m T v _ y C1 hE hT h0 (by rw[wC1, <-hK1];omega) h2 (by rw[wC1, <-hp];exact h3) hv (hup w hd) hC1p (by omega))
 rw[wC1, <-hK1]at CH
 have dm:=fB (a:=p) (b:=n) (by omega) (by omega)
 have dm2:=fB (a:=max (wl (y/C1)) (wl C0)) (b:=n) (by omega) (by omega)
 obtain⟨KM,hKM⟩:∃ KM,KM=max m (l+((iF p+dI n:Nat):Int)):=⟨_,rfl⟩
 have hgl:=hE.met.lt
 obtain⟨R0,hR0⟩:∃ R0,R0=x+18446744073709551616^h*(y%C1):=⟨_,rfl⟩
 obtain⟨L,hL⟩:∃ L,L=y/C1*C0:=⟨_,rfl⟩
 obtain⟨q0,hq0⟩:∃ q0,q0=y/C1:=⟨_,rfl⟩
 have wL:wl L<=32769:=by
  have:=km (y/C1) C0
  rw[<-hL]at this
  omega
 have wR0:wl R0<=50000:=by
  have a1:=JI x (18446744073709551616^h*(y%C1))
  have a2:=cI _ _ hx
  have a3:=km (18446744073709551616^h) (y%C1)
  have a4:wl (18446744073709551616^h)<=h+1:=cI _ _ (by rw[Nat.pow_succ];have:=fb h;omega)
  rw[<-hR0]at a1
  omega
 have CC:Hid (∀ w1 r,Out (·=g) w w1->ah w.heap.size w1 r (y%C1)->Calls Tryz.prog 79 #[.slice (some ⟨w1.heap.size,0,none⟩) 2 2] (w1.alloc (.cells #[u,r] 29)).drew fun e w'=>∃ rest,e=.returned rest/\bm w.heap.size w' rest R0/\Below w1.heap.size w1 w'):=fun w1 r o nr=>by
  rw[hR0]
  show Calls Tryz.prog 79 #[.slice (some ⟨w1.heap.size,0,none⟩) 2 2] (w1.drew.alloc (.cells #[u,r] 29)) _
  have:=y6 (B:=w.heap.size) w1.drew u r x (y%C1) h ((hE.inL2 o hu).next ((Below.refl _ _).drew)) (by omega) (nr.next ((Below.refl _ _).drew)) wr
  refine this.mono ?_
  rintro e w' ⟨rest,he,hn,hb⟩
  have hb':Below w1.heap.size w1 w':=ag ((Below.refl _ w1).drew) hb
  exact⟨rest,he,hn.mono o.size,hb'⟩
 have CM:Hid (∀ w1 W q rest (s1 m1:Int),Out (·=g) w w1->aw w1 gv gr gd gm gt gk ge g s1 l m1 T->ah w.heap.size w1 q q0->Below w1.heap.size w1 W->bm w.heap.size W rest R0->s<=s1->s1<=s+(K1:Int)->m<=m1->m1<=KM->Calls Tryz.prog 39 #[.pointer (some ⟨gm,0,none⟩),q,.slice (some ⟨b,o,none⟩) h cb] W fun e w'=>∃ p s' m',e=.returned p/\ah w.heap.size w' p L/\bm w.heap.size w' rest R0/\ah w.heap.size w' q q0/\aw w' gv gr gd gm gt gk ge g s' l m' T/\s<=s'/\s'<=s+(eF (f+1) n:Int)/\m<=m'/\m'<=KM/\Out (·=g) w w'):=fun w1 W q rest s1 m1 o E nq bW nR k1 k2 k3 k4=>by
  rw[hq0]at nq
  have E':=E.next bW
  have oW:=o.next bW
  refine(iU W gr gd gm gt gk ge g s1 l m1 T q _ (y/C1) C0 E'.rcp (hE.rcp.tb oW hT) (by omega) (by omega) h2 (by omega) ((nq.next bW).wlM (by omega)) (hlo _ (hE.rcp.inC oW hd))).mono ?_
  rintro e w' ⟨pp,s',m',j1,j2,j3,j4,j5,j6,j7,j8⟩
  rw[<-hL]at j2
  refine⟨pp,s',m',j1,j2.mono oW.size,nR.out j8 (fun k e=>by rw[e];exact hgl),hq0▸E'.rcp.newW j8 (nq.next bW),E'.kept j8 j3,by omega,by omega,by omega,by omega,oW.trans j8⟩
 have CO:Hid (∀ W,Calls Tryz.prog 59 #[.int .u64 1] W fun e w'=>∃ r,e=.returned r/\ah W.heap.size w' r 1/\Below W.heap.size W w'):=fun W=>AY W 1 (by decide)
 have HD:Hid (∀ W,Out (·=g) w W->aY W (.slice (some ⟨b,o,none⟩) n cb) C):=fun W oW=>(hE.rcp.inC oW hd).inM.inW
 have CX:Hid (∀ W rest R less,wl R<=100000->bm w.heap.size W rest R->ah w.heap.size W less L->Calls Tryz.prog 67 #[rest,less] W fun e w'=>e=.returned (.int .i64 (cO R L))/\Below W.heap.size W w'):=fun W rest R less _ nR nl=>rM W rest less R L nR.inW (nl.wlW (by omega))
 have C0':Hid (∀ W u v Q,wl Q<=1000000->ah w.heap.size W u Q->ah w.heap.size W v 1->0<Q->Calls Tryz.prog 91 #[u,v] W fun e w'=>∃ r,e=.returned (.tuple #[r,.bool true])/\ah W.heap.size w' r (Q-1)/\Below W.heap.size W w'):=fun W u v Q h n n1 hle=>(jB W u v Q 1 (n.wlW (by omega)) (n1.toIn (p:=1) (by decide) (by omega))).mono fun e w' ⟨b,hh⟩=>by
  rcases hh with⟨_,r,he,hn⟩|⟨hlt,_⟩
  ·exact⟨r,he,hn,b⟩
  ·omega
 have CA:Hid (∀ W rest R,Out (·=g) w W->bm w.heap.size W rest R->Calls Tryz.prog 92 #[rest,.slice (some ⟨b,o,none⟩) n cb] W fun e w'=>∃ r,e=.returned r/\ah W.heap.size w' r (R+C)/\Below W.heap.size W w'):=fun W rest R oW nR=>l9 W rest _ R C nR.inW (ae HD _ oW)
 have CS:Hid (∀ W rest R less,bm w.heap.size W rest R->ah w.heap.size W less L->L<=R->Calls Tryz.prog 91 #[rest,less] W fun e w'=>∃ r,e=.returned (.tuple #[r,.bool true])/\ah W.heap.size w' r (R-L)/\Below W.heap.size W w'):=fun W rest R less nR nl hle=>(jB W rest less R L nR.inW (nl.wlW (by omega))).mono fun e w' ⟨b,hh⟩=>by
  rcases hh with⟨_,r,he,hn⟩|⟨hlt,_⟩
  ·exact⟨r,he,hn,b⟩
  ·omega
 have HF:Hid (∀ W q r s' m',ah w.heap.size W q (X/C)->ah w.heap.size W r (X%C)->aw W gv gr gd gm gt gk ge g s' l m' T->s<=s'->s'<=s+(eF (f+1) n:Int)->m<=m'->m'<=KM->Out (·=g) w W->tq w gv gr gd gm gt gk ge g s l m T X C (eF (f+1) n) (iF (n-h)+dI n) (.returned (.tuple #[q,r])) W):=fun W q r s' m' a1 a2 a3 a4 a5 a6 a7 a8=>⟨q,r,s',m',rfl,a1,a2,a3,a4,a5,a6,by rw[hp, <-hKM];exact a7,a8⟩
 obtain⟨val,hval⟩:=xM
 have HV:=hide hval
 have HH:Hid (∀ q r gq gx (m1:Int) w1,aO gq (gq+1) w1 q (y/C1)->aO gx (gx+1) w1 r (y%C1)->(gq≠gx/\w.heap.size<=gq/\w.heap.size<=gx)->m1<=max m (l+((iF p+dI p:Nat):Int))->ah w.heap.size w1 q q0/\ah w.heap.size w1 r (y%C1)/\m1<=KM):=fun q r gq gx m1 w1 a1 a2 a3 a4=>⟨hq0▸a1.toW.mono a3.2.1,a2.toW.mono a3.2.2,by omega⟩
 have HST:=hide (show X+L=R0+q0*C by rw[hL,hR0,hq0];exact st1)
 have HSQ:=hide (show X/C<=q0 by rw[hq0];exact st2)
 have HC0:=hide hC0
 have wC':wl C<=16384:=by omega
 have wq0:wl q0<=20000:=by rw[hq0];omega
 obtain⟨ga,_,_,ca,rfl,_,_⟩:=id hv.is
 obtain⟨gu,_,_,cu,_,hue,_⟩:=id hu
 subst hue
 have k1:h<=n/\h<=cb/\¬cb=h:=by omega
 obtain⟨k1,k2,k3⟩:=k1
 unfold jC at CH
 clear IH hE hT h0 h1 h2 h3 hu hv hd hy hn hh hf hC1 hC0e hCe hC0l hup hlo wC1 hC1p wC0 wq wr hx st1 st2 hX hK hK1 dm dm2 hKM hgl hR0 hL hq0 hval hC0 hlvp
 generalize tq w gv gr gd gm gt gk ge g s l m T X C (eF (f+1) n) (iF (n-h)+dI n)=SA at *
 generalize (eF (f+1) n:Int)=KE at *
 generalize max m (l+((iF p+dI p:Nat):Int))=KM1 at *
 generalize (K1:Int)=KK at *
 generalize y/C1=yq at *
 generalize y%C1=yr at *
 generalize wl y=ly at *
 suffices H:Calls Tryz.prog 83 #[.pointer (some ⟨gv,0,none⟩),.slice gu h cu,.slice ga ly ca,.slice (some ⟨b,o,none⟩) n cb] w (fun e w'=>∃ v,e=.returned v/\SA (.returned v) w') from H.mono (fun e w' ⟨v,he,h⟩=>he▸h)
 go_enter Tryz.func83,Tryz.ntmps83
 go_wp2_with fail
 with_reducible refine(ae CH).mono ?_
 rintro e w1 ⟨q,r,gq,gx,s1,m1,rfl,nq,nr,hg,E1,a1,a2,a3,a4,o1⟩
 obtain⟨nq,nr,a4⟩:=ae HH q r gq gx m1 w1 nq nr hg a4
 have CC:=hide (ae CC w1 r o1 nr)
 have CM:=hide (fun W rest=>ae CM w1 W q rest s1 m1 o1 E1 nq)
 have HC:Hid (∀ W,Below w1.heap.size w1 W->W.cell? ⟨gv,0,none⟩=some (.pointer (some ⟨gr,0,none⟩))/\W.cell? ⟨gr,0,none⟩=some (.pointer (some ⟨gd,0,none⟩))/\W.cell? ⟨gd,0,none⟩=some (.pointer (some ⟨gm,0,none⟩))):=fun W bW=>by
  obtain⟨e0,e1,e2,_⟩:=(E1.next bW).way
  exact⟨e0,e1,e2⟩
 have HW:Hid (∀ W s' m',aw W gv gr gd gm gt gk ge g s' l m' T->W.cell? ⟨gv,0,none⟩=some (.pointer (some ⟨gr,0,none⟩))/\W.cell? ⟨gr,0,none⟩=some (.pointer (some ⟨gd,0,none⟩))/\W.cell? ⟨gd,0,none⟩=some (.pointer (some ⟨gm,0,none⟩))):=fun W s' m' E=>by
  obtain⟨e0,e1,e2,_⟩:=E.way
  exact⟨e0,e1,e2⟩
 have bl:Below w1.heap.size w1 w1.drew:=(Below.refl _ _).drew
 have bA:Below w1.heap.size w1 (w1.alloc (.cells #[.slice gu h cu,r] 29)).drew:=((Below.refl _ w1).alloc (Nat.le_refl _) _).drew
 obtain⟨qa,ql,qc,rfl⟩:=nq.shape
 obtain⟨ra,rl,rc,rfl⟩:=nr.shape
 clear CH HH E1 o1 nq nr hg
 go_wp2_with fail
 (try simp only[List.append_eq,List.cons_append,List.nil_append])
 go_region_held3 (fun w'=>w'.cell? ⟨gv,0,none⟩=some (.pointer (some ⟨gr,0,none⟩))/\w'.cell? ⟨gr,0,none⟩=some (.pointer (some ⟨gd,0,none⟩))/\w'.cell? ⟨gd,0,none⟩=some (.pointer (some ⟨gm,0,none⟩))) (first|(exact ae HC _ bl)|(exact ae HC _ bA)|(exact ae HW _ _ _ E3)|(exact ae HW _ _ _ E4)|go_keep) (first
  |(with_reducible refine(ae CC).mono ?_;rintro e w2 ⟨rest,rfl,nR,bl⟩)
  |(with_reducible refine(ae CM _ _ bl nR a1 a2 a3 a4).mono ?_;rintro e w3 ⟨less,s3,m3,rfl,nL,nR,nq,E3,d1,d2,d3,d4,o3⟩)
  |(with_reducible refine(ae CO _).mono ?_;rintro e w4 ⟨one,rfl,n4,b4⟩;have E4:=aw.next E3 b4)
  |fail)
 have NQ:=hide (nq.next b4)
 have NR:=hide (nR.next b4)
 have NL:=hide (nL.next b4)
 have NO:=hide (n4.mono (B':=w.heap.size) o3.size)
 have HE:=hide E4
 have HO:=hide (o3.next b4)
 have sz:=(ae HO).size
 obtain⟨la,ll,lc,rfl⟩:=nL.shape
 obtain⟨oa,ol,oc,rfl⟩:=n4.shape
 clear nq nR nL n4 E3 E4 o3 b4 bl bA CC CM CO HC HW a1 a2 a3 a4 k1 k2 k3
 go_wp2
 go_loopw [8,11] (fun qv pv wr=>∃ Q R,Hid (X+L=R+Q*C)/\Hid (X/C<=Q)/\Q<=q0/\wl R<=60000/\Hid (ah w.heap.size wr qv Q)/\Hid (bm w.heap.size wr pv R)/\Below w4.heap.size w4 wr) (fun qv _ wr=>val wr qv)
 case atStart=>exact⟨q0,R0,HST,HSQ,Nat.le_refl _,by omega,NQ,NR,Below.refl _ _⟩
 case round=>
  clear NQ NR HST HSQ
  obtain⟨Q,R,e1,e2,hQ,hR,NQ,NR,b2⟩:=hrel
  have e1:=hide (ae e1)
  have e2:=hide (ae e2)
  have wQ:=aS hQ
  have hm1:=ae HV _ _ _ ((ae NQ).wlW (by omega))
  have o2:=(ae HO).next b2
  have CX1:=hide (ae CX _ _ _ _ (by omega) (ae NR) ((ae NL).next b2))
  obtain⟨qa,ql,qc,rfl⟩:=(ae NQ).shape
  obtain⟨pa,pl,pc,rfl⟩:=(ae NR).inW.is
  by_cases hlt:R<L
  ·have hc:cO R L= -1:=dF hlt
   obtain⟨f1,f2,f3⟩:=KG (ae e1) (ae e2) (ae HC0) hlt
   rw[hc]at CX1
   have wRC:=JI R C
   have wRL:=aS (Nat.le_of_lt hlt)
   have F2:=hide f2
   have F3:=hide f3
   clear hc CS HF e1 e2 f2 f3
   go_wp2_with fail
   with_reducible refine(ae CX1).mono ?_
   rintro e w5 ⟨rfl,b5⟩
   have C01:=hide (ae C0' _ _ _ _ (by omega) ((ae NQ).next b5) (((ae NO).next b2).next b5) f1)
   have NR:=hide ((ae NR).next b5)
   have b5:=ag b2 b5
   clear CX1 b2 o2 NQ
   go_wp2_with fail
   with_reducible refine(ae C01).mono ?_
   rintro e w6 ⟨q2,rfl,nq,b6⟩
   have CA1:=hide (ae CA _ _ _ ((ae HO).next (ag b5 b6)) ((ae NR).next b6))
   have s5:=b5.size
   have NQ:=hide (nq.mono (B':=w.heap.size) (by omega))
   have b6:=ag b5 b6
   obtain⟨qa',ql',qc',rfl⟩:=nq.shape
   clear C01 nq b5 NR
   go_wp2_with fail
   with_reducible refine(ae CA1).mono ?_
   rintro e w7 ⟨p2,rfl,np,b7⟩
   have s6:=b6.size
   have NR:=hide ((np.mono (B':=w.heap.size) (by omega)).toJ (by omega))
   have NQ:=hide ((ae NQ).next b7)
   have b7:=ag b6 b7
   have hm2:=ae HV _ _ _ ((ae NQ).wlW (by have:=aS (Nat.sub_le Q 1);omega))
   obtain⟨pa',pl',pc',rfl⟩:=np.shape
   clear CA1 np b6
   go_wp2
   go_roundw
   case rel=>exact⟨Q-1,R+C,F2,F3,by omega,by omega,NQ,NR,b7⟩
   case measure=>rw[hm1,hm2];omega
  ·obtain⟨c,hc0,hc⟩:∃ c:Int,cO R L=c/\¬c<0:=by
    refine⟨_,rfl,?_⟩
    rcases Nat.lt_or_ge L R with h|h
    ·rw[ez h];decide
    ·rw[fq (by omega)];decide
   rw[hc0]at CX1
   obtain⟨f1,f2⟩:=N5 (ae e1) (ae e2) (ae HC0) (by omega)
   have F1:=hide f1
   have F2:=hide f2
   have HLT:=hide hlt
   clear hc0 C0' CA hm1 e1 e2 f1 f2 hlt
   go_wp2_with fail
   with_reducible refine(ae CX1).mono ?_
   rintro e w5 ⟨rfl,b5⟩
   have CS1:=hide (ae CS _ _ _ _ ((ae NR).next b5) (((ae NL).next b2).next b5) (by have:=ae HLT;omega))
   have NQ:=hide ((ae NQ).next b5)
   have b5:=ag b2 b5
   clear CX1 b2 o2 NR
   go_wp2_with fail
   with_reducible refine(ae CS1).mono ?_
   rintro e w6 ⟨r2,rfl,nr,b6⟩
   have s5:=b5.size
   have nq:=(ae NQ).next b6
   have nr':=nr.mono (B':=w.heap.size) (by omega)
   rw[ae F1]at nq
   rw[ae F2]at nr'
   have b6:=ag b5 b6
   have HX:=hide (ae HF _ _ _ _ _ nq nr' ((ae HE).next b6) d1 d2 d3 d4 ((ae HO).next b6))
   obtain⟨ra',rl',rc',rfl⟩:=nr.shape
   clear CS1 nq nr nr' NQ b5 b6 F1 F2
   go_wp2
   go_ret2
   exact⟨_,rfl,ae HX⟩
end Go.Proofs.YtpdpnomocbehkaaGreatDoor
/- halves of the landed package div. -/
namespace Go.Proofs.YtpdpnomocbehkaaGreatDoor
open Go.RowKit
set_option maxRecDepth 100000 in
set_option maxHeartbeats 3200000 in
theorem Dn(w:World)(P0 P1 gv:Nat)(u v d:Value)(SA:Ending->World->Prop)(hu:∃ a l c,u=.slice a l c)(hv:∃ a l c,v=.slice a l c)(hd:∃ a l c,d=.slice a l c)
  (c0:w.cell? ⟨P0,0,none⟩=some (.pointer (some ⟨gv,0,none⟩))) (c1:w.cell? ⟨P1,0,none⟩=some d)
  (H:∀ W,Below w.heap.size w W->Calls Tryz.prog 83 #[.pointer (some ⟨gv,0,none⟩),u,v,d] W fun e w'=>∃ q r,e=.returned (.tuple #[q,r])/\SA (.returned (.tuple #[q,r])) w'):
  Calls Tryz.prog 82 #[u,v,.pointer (some ⟨P0,0,none⟩),.pointer (some ⟨P1,0,none⟩)] w SA:=by
 obtain⟨ua,ul,uc,rfl⟩:=hu
 obtain⟨va,vl,vc,rfl⟩:=hv
 obtain⟨da,dl,dc,rfl⟩:=hd
 have HH:=hide H
 clear H
 have HC:Hid (∀ W,Below w.heap.size w W->W.cell? ⟨P0,0,none⟩=some (.pointer (some ⟨gv,0,none⟩))/\W.cell? ⟨P1,0,none⟩=some (.slice da dl dc)):=fun W b=>⟨(b.cell (p:=⟨P0,0,none⟩) (World.block_lt_of_cell? _ _ c0)).trans c0,(b.cell (p:=⟨P1,0,none⟩) (World.block_lt_of_cell? _ _ c1)).trans c1⟩
 suffices H:Calls Tryz.prog 82 #[.slice ua ul uc,.slice va vl vc,.pointer (some ⟨P0,0,none⟩),.pointer (some ⟨P1,0,none⟩)] w (fun e w'=>∃ v,e=.returned v/\SA (.returned v) w') from H.mono (fun e w' ⟨v,he,h⟩=>he▸h)
 go_enter Tryz.func82,Tryz.ntmps82
 go_wp2_with fail
 with_reducible refine(ae HH _ (Below.refl _ _)).mono ?_
 rintro e w1 ⟨q,r,rfl,h⟩
 have H1:=hide h
 clear HH HC h
 go_wp2
 go_ret2
 exact⟨_,rfl,ae H1⟩
set_option maxRecDepth 100000 in
set_option maxHeartbeats 3200000 in
theorem wB(w:World)(gv gr gd gm gt gk ge g:Nat)(s l m:Int)(T:Tab)(u v:Value)(A C:Nat)
  (hE:aw w gv gr gd gm gt gk ge g s l m T) (h0:0<=s) (h1:s<=1152921504606846976) (h2:0<=l) (h3:l<=1000) (hu:d6 w u A) (hv:d6 w v C) (hC:0<C)
  (hs:(wl C:Int)<T.clamp.row.getD 3 0\/(wl (A/C):Int)<T.clamp.row.getD 3 0):
  Calls Tryz.prog 52 #[.pointer (some ⟨gv,0,none⟩),u,v] w (jC w gv gr gd gm gt gk ge g s l m T A C (jL A C) 0):=by
 obtain⟨ga,_,_,ca,rfl,_,_⟩:=id hu.is
 obtain⟨gb,_,_,cb,rfl,_,_⟩:=id hv.is
 have bE:=Boxed.new w 26 (.pointer (some ⟨gv,0,none⟩))
 have bB:=Boxed.new (w.alloc (.cells #[.pointer (some ⟨gv,0,none⟩)] 26)) 29 (.slice gb (wl C) cb)
 rw[World.size_alloc]at bB
 replace bE:=bE.alloc (.cells #[.slice gb (wl C) cb] 29)
 have b1:Below w.heap.size w ((w.alloc (.cells #[.pointer (some ⟨gv,0,none⟩)] 26)).alloc (.cells #[.slice gb (wl C) cb] 29)):=((Below.refl _ w).alloc (Nat.le_refl _) _).alloc (by simp) _
 obtain⟨W1,hW1⟩:∃ W1,(w.alloc (.cells #[.pointer (some ⟨gv,0,none⟩)] 26)).alloc (.cells #[.slice gb (wl C) cb] 29)=W1:=⟨_,rfl⟩
 rw[hW1]at bE bB b1
 obtain⟨P0,hP0⟩:∃ P0,w.heap.size=P0:=⟨_,rfl⟩
 rw[hP0]at bE bB
 have E1:=hE.next b1
 obtain⟨e0,e1,e2,e3,e4,e5,e6⟩:=E1.way
 have cE:=bE.cell
 have cB:=bB.cell
 have CS:=hide (en W1 gv gr gd gm gt gk ge g s l m T _ _ A C _ true E1 (hu.next b1) (hv.next b1) hC rfl (by rw[eq_comm,decide_eq_true_iff];exact hs))
 have CL:Hid (∀ W,Below W1.heap.size W1 W->Calls Tryz.prog 24 #[.pointer (some ⟨gd,0,none⟩),.slice ga (wl A) ca,.slice gb (wl C) cb] W fun e w'=>∃ q r,e=.returned (.tuple #[q,r,.int .i64 0])/\jC w gv gr gd gm gt gk ge g s l m T A C (jL A C) 0 (.returned (.tuple #[q,r])) w'/\(w'.cell? ⟨P0,0,none⟩=some (.pointer (some ⟨gv,0,none⟩))/\w'.cell? ⟨P0+1,0,none⟩=some (.slice gb (wl C) cb)/\w'.cell? ⟨gv,0,none⟩=some (.pointer (some ⟨gr,0,none⟩))/\w'.cell? ⟨gr,0,none⟩=some (.pointer (some ⟨gd,0,none⟩)))):=fun W bW=>by
  have bw:=ag b1 bW
  refine(iT W gr gd gm gt gk ge g s l m T _ _ A C (hE.next bw).rcp h0 h1 h2 h3 (hu.next bw).inM (hv.next bw).inM hC).mono ?_
  rintro e w' ⟨q,r,gq,gx,k1,k2,k3,⟨k4,k5,k6⟩,k7,k8⟩
  have sz:=bw.size
  have E9:=(hE.next bw).kept k8 k7
  have lg:=hE.met.lt
  obtain⟨d0,d1,_⟩:=E9.way
  exact⟨q,r,k1,⟨q,r,gq,gx,_,m,rfl,k2,k3,⟨k4,by omega,by omega⟩,E9,by omega,Int.le_refl _,Int.le_refl _,by omega,(Out.of_below bw).trans k8⟩,k8.cell ((bW.cell (p:=⟨P0,0,none⟩) bE.lt).trans bE.cell) (fun(e:P0=g)=>by omega),k8.cell ((bW.cell (p:=⟨P0+1,0,none⟩) bB.lt).trans bB.cell) (fun(e:P0+1=g)=>by omega),d0,d1⟩
 have lE:=bE.lt
 have lB:=bB.lt
 have HC:Hid (∀ W,Below W1.heap.size W1 W->W.cell? ⟨P0,0,none⟩=some (.pointer (some ⟨gv,0,none⟩))/\W.cell? ⟨P0+1,0,none⟩=some (.slice gb (wl C) cb)/\W.cell? ⟨gv,0,none⟩=some (.pointer (some ⟨gr,0,none⟩))/\W.cell? ⟨gr,0,none⟩=some (.pointer (some ⟨gd,0,none⟩))):=fun W bW=>by
  obtain⟨d0,d1,_⟩:=(E1.next bW).way
  exact⟨(bW.cell (p:=⟨P0,0,none⟩) lE).trans cE,(bW.cell (p:=⟨P0+1,0,none⟩) lB).trans cB,d0,d1⟩
 generalize jC w gv gr gd gm gt gk ge g s l m T A C (jL A C) 0=SA at *
 generalize wl A=na at *
 generalize wl C=nb at *
 clear hE h0 h1 h2 h3 hu hv hC hs E1 bE bB b1 e2 e3 e4 e5 e6 lE lB
 suffices H:Calls Tryz.prog 52 #[.pointer (some ⟨gv,0,none⟩),.slice ga na ca,.slice gb nb cb] w (fun e w'=>∃ v,e=.returned v/\SA (.returned v) w') from H.mono (fun e w' ⟨v,he,h⟩=>he▸h)
 go_enter_defers Tryz.func52,Tryz.ntmps52
 go_wp2_with fail
 with_reducible refine(ae CS).mono ?_
 rintro e w2 ⟨rfl,b2⟩
 have bl:Below W1.heap.size W1 w2.drew:=b2.drew
 clear CS b2
 go_wp2_with fail
 (try simp only[List.append_eq,List.cons_append,List.nil_append])
 go_region_held3 (fun w'=>w'.cell? ⟨P0,0,none⟩=some (.pointer (some ⟨gv,0,none⟩))/\w'.cell? ⟨P0+1,0,none⟩=some (.slice gb nb cb)/\w'.cell? ⟨gv,0,none⟩=some (.pointer (some ⟨gr,0,none⟩))/\w'.cell? ⟨gr,0,none⟩=some (.pointer (some ⟨gd,0,none⟩))) (first|(exact ae HC _ bl)|(exact d9)|go_keep) (first
  |(with_reducible refine(ae CL _ bl).mono ?_;rintro e w3 ⟨q,r,rfl,h,d9⟩)
  |fail)
 have HX:=hide h
 clear CL h HC
 go_wp2
 refine⟨_,results_tmp2 rfl _ _ _,.tuple #[q,r],?_,ae HX⟩
 rfl
def P6(P0 P1 gv gr gd gm gt gk ge g:Nat)(s l m:Int)(T:Tab)(d:Value)(C K M:Nat)(i:Nat)(W:World):Prop:=
 ∃ s' m',aw W gv gr gd gm gt gk ge g s' l m' T/\TB W/\d6 W d C/\W.cell? ⟨P0,0,none⟩=some (.pointer (some ⟨gv,0,none⟩))/\W.cell? ⟨P1,0,none⟩=some d/\s<=s'/\s'<=s+((i*K:Nat):Int)/\m<=m'/\m'<=max m (l+(M:Int))
theorem tV{w0 W W':World}{d:Value}{C B:Nat}(h0:d6 w0 d C)(hB:w0.heap.size<=B)(h:d6 W d C)(o:Out (fun j=>B<=j) W W'):d6 W' d C:=by
 obtain⟨ga,b,oo,cap,xs,rfl,hr,hc,hv,hl⟩:=h
 refine⟨ga,b,oo,cap,xs,rfl,o.rep hr (fun hp hb=>?_),hc,hv,hl⟩
 obtain⟨ga',b',oo',cap',ys,e,hr',_,_,_⟩:=h0
 injection e with e1 e2 e3
 have a1:=hr.head hp
 have a2:=hr'.head (by omega)
 rw[<-e1,a1]at a2
 injection a2 with a3
 injection a3 with a4
 have:=hr'.lt (by omega)
 have hb':B<=b:=hb
 omega
theorem zk(f:Nat)(IH:Ai f)(w0:World)(B P0 P1 gv gr gd gm gt gk ge g:Nat)(s l m:Int)(T:Tab)(d:Value)(A C n h P:Nat)(h0:0<=s)(h1:s+((P*eF (f+1) n:Nat):Int)<=1143914305352105984)(h2:0<=l)(h3:l+(iF (n-h):Int)<=1000)
  (hn:n=wl C) (hh:h=n/2) (hn2:2<=n) (hf:n-h<=f) (b0:P0<B) (b1:P1<B) (b2:gv<B/\gr<B/\gd<B/\gm<B/\gt<B/\gk<B/\ge<B/\g<B) (hP0:P0≠g) (hP1:P1≠g) (hd0:d6 w0 d C) (ht0:TB w0) (hwB:w0.heap.size<=B):
  Nz B g A C h 82 P #[] #[.pointer (some ⟨P0,0,none⟩),.pointer (some ⟨P1,0,none⟩)] (P6 P0 P1 gv gr gd gm gt gk ge g s l m T d C (eF (f+1) n) (iF (n-h)+dI n)) where
 go:=fun args W=>by kernel_rfl
 next:=fun i W W' hS o=>by
  obtain⟨s',m',E,t,id,c0,c1,k1,k2,k3,k4⟩:=hS
  obtain⟨a0,a1,a2,a3,a4,a5,a6,a7⟩:=b2
  refine⟨s',m',⟨o.cell E.ptr (by show ¬B<=gv;omega),E.rcp.out o (by show ¬B<=gr;omega) (by show ¬B<=gd;omega) (by show ¬B<=gm;omega) (by show ¬B<=gt;omega) (by show ¬B<=gk;omega) (by show ¬B<=ge;omega) (by show ¬B<=g;omega),E.nm⟩,ht0.far t (o.mono fun k hk=>Nat.le_trans hwB hk),tV hd0 hwB id o,o.cell c0 (by show ¬B<=P0;omega),o.cell c1 (by show ¬B<=P1;omega),k1,k2,k3,k4⟩
 call:=fun i W u v x y hi hB hS hu hv hy _=>by
  obtain⟨s',m',E,t,id,c0,c1,k1,k2,k3,k4⟩:=hS
  have e:(#[]++#[u,v]++#[.pointer (some ⟨P0,0,none⟩),.pointer (some ⟨P1,0,none⟩)]:Array Value)=#[u,v,.pointer (some ⟨P0,0,none⟩),.pointer (some ⟨P1,0,none⟩)]:=by simp
  rw[e]
  have hK:i*eF (f+1) n+eF (f+1) n<=P*eF (f+1) n:=by
   have:=Nat.mul_le_mul_right (eF (f+1) n) (show i+1<=P from hi)
   rw[Nat.succ_mul]at this
   exact this
  have hi1:(i+1)*eF (f+1) n=i*eF (f+1) n+eF (f+1) n:=Nat.succ_mul _ _
  have hux:∃ a l c,u=.slice a l c:=by
   obtain⟨ga,_,_,cap,xs,rfl,_⟩:=hu
   exact⟨_,_,_,rfl⟩
  refine(Dn W P0 P1 gv u v d _ hux hv.inM.inW.is id.inM.inW.is c0 c1 (fun W2 bW=>?_))
  refine(Dp f IH W2 gv gr gd gm gt gk ge g s' l m' T u v d x y C n h (E.next bW) (t.next bW) (by omega) (by omega) h2 h3 (hu.next bW) (hv.next bW) (id.next bW) hy hn hh hn2 hf).mono ?_
  rintro e w' ⟨q,r,s2,m2,rfl,n1,n2,E2,j1,j2,j3,j4,o2⟩
  have sz:=bW.size
  have oW:Out (·=g) W w':=(Out.of_below bW).trans o2
  refine⟨q,r,rfl,q,r,rfl,n1.mono sz,n2.mono sz,⟨s2,m2,E2,E.rcp.tb oW t,E.rcp.inC oW id,oW.cell c0 hP0,oW.cell c1 hP1,by omega,?_,by omega,by omega⟩,oW⟩
  rw[hi1]
  omega
theorem aw.step{w w':World}{gv gr gd gm gt gk ge g:Nat}{s l m s' l' m':Int}{T:Tab}(h:aw w gv gr gd gm gt gk ge g s l m T)(M:Met w' g 0 s' l' m')(t:Touch g 0 3 w w'):aw w' gv gr gd gm gt gk ge g s' l' m' T:=
 ⟨t.grown.cell h.ptr (by simpa using h.nm),h.rcp.step M t,h.nm⟩
theorem aw.lts{w:World}{gv gr gd gm gt gk ge g:Nat}{s l m:Int}{T:Tab}(h:aw w gv gr gd gm gt gk ge g s l m T):gv<w.heap.size/\gr<w.heap.size/\gd<w.heap.size/\gm<w.heap.size/\gt<w.heap.size/\gk<w.heap.size/\ge<w.heap.size/\g<w.heap.size:=by
 obtain⟨e0,e1,e2,e3,e4,e5,e6⟩:=h.way
 exact⟨World.block_lt_of_cell? _ _ e0,World.block_lt_of_cell? _ _ e1,World.block_lt_of_cell? _ _ e2,World.block_lt_of_cell? _ _ e3,World.block_lt_of_cell? _ _ e4,World.block_lt_of_cell? _ _ e5,World.block_lt_of_cell? _ _ e6,h.met.lt⟩
set_option maxRecDepth 100000 in
set_option maxHeartbeats 3200000 in
theorem tU(f:Nat)(IH:Ai f)(w:World)(gv gr gd gm gt gk ge g:Nat)(s l m:Int)(T:Tab)(u v:Value)(A C n h Q P:Nat)
  (hE:aw w gv gr gd gm gt gk ge g s l m T) (hT:TB w) (h0:0<=s) (h1:s+((P*eF (f+1) n:Nat):Int)<=1143914305352105984) (h2:0<=l) (h3:l+(iF n:Int)<=1000) (hu:d6 w u A) (hv:d6 w v C) (hC:0<C)
  (hn:n=wl C) (hh:h=n/2) (hn2:2<=n) (hf:n<=f+1) (hQ:Q=wl (A/C)) (hQ0:0<Q) (hP:P=cd Q h)
  (hs1:¬(wl C:Int)<T.clamp.row.getD 3 0) (hs2:¬(wl (A/C):Int)<T.clamp.row.getD 3 0):
  Calls Tryz.prog 52 #[.pointer (some ⟨gv,0,none⟩),u,v] w (jC w gv gr gd gm gt gk ge g s l m T A C (P*eF (f+1) n) (iF n+dI n)):=by
 have wC:=hv.wlM
 rw[<-hn]at wC
 have hlh:=He hn2 wC
 rw[<-hh]at hlh
 have hl16:=zl wC
 obtain⟨ga,_,_,ca,rfl,_,_⟩:=id hu.is
 obtain⟨gb,_,_,cb,rfl,_,_⟩:=id hv.is
 have bE:=Boxed.new w 26 (.pointer (some ⟨gv,0,none⟩))
 have bB:=Boxed.new (w.alloc (.cells #[.pointer (some ⟨gv,0,none⟩)] 26)) 29 (.slice gb (wl C) cb)
 rw[World.size_alloc]at bB
 replace bE:=bE.alloc (.cells #[.slice gb (wl C) cb] 29)
 have b1:Below w.heap.size w ((w.alloc (.cells #[.pointer (some ⟨gv,0,none⟩)] 26)).alloc (.cells #[.slice gb (wl C) cb] 29)):=((Below.refl _ w).alloc (Nat.le_refl _) _).alloc (by simp) _
 obtain⟨W1,hW1⟩:∃ W1,(w.alloc (.cells #[.pointer (some ⟨gv,0,none⟩)] 26)).alloc (.cells #[.slice gb (wl C) cb] 29)=W1:=⟨_,rfl⟩
 rw[hW1]at bE bB b1
 obtain⟨P0,hP0⟩:∃ P0,w.heap.size=P0:=⟨_,rfl⟩
 rw[hP0]at bE bB
 have lts:=hE.lts
 have E1:=hE.next b1
 obtain⟨e0,e1,e2,e3,e4,e5,e6⟩:=E1.way
 have cE:=bE.cell
 have cB:=bB.cell
 have CS:=hide (en W1 gv gr gd gm gt gk ge g s l m T _ _ A C _ false E1 (hu.next b1) (hv.next b1) hC rfl (by rw[eq_comm,decide_eq_false_iff_not];omega))
 have CE:Hid (∀ W,Below W1.heap.size W1 W->Calls Tryz.prog 80 #[.pointer (some ⟨g,0,none⟩)] W fun e w'=>e=.returned (.int .i64 (l+1))/\aw w' gv gr gd gm gt gk ge g s (l+1) (max m (l+1)) T/\Out (·=g) w w'/\Boxed w' P0 26 (.pointer (some ⟨gv,0,none⟩))/\Boxed w' (P0+1) 29 (.slice gb (wl C) cb)):=fun W bW=>by
  have bw:=ag b1 bW
  have EW:=hE.next bw
  refine(fc (l+1) (max m (l+1)) EW.met rfl rfl (by omega) (by omega)).mono ?_
  rintro e w' ⟨k1,M,t⟩
  have o:=Out.of_grown t.grown
  exact⟨k1,EW.step M t,(Out.of_below bw).trans o,aE ((bW.block P0 bE.lt).trans bE) o (fun(e:P0=g)=>by omega),aE ((bW.block (P0+1) bB.lt).trans bB) o (fun(e:P0+1=g)=>by omega)⟩
 have lE:=bE.lt
 have lB:=bB.lt
 have HC:Hid (∀ W,Below W1.heap.size W1 W->W.cell? ⟨P0,0,none⟩=some (.pointer (some ⟨gv,0,none⟩))/\W.cell? ⟨gv,0,none⟩=some (.pointer (some ⟨gr,0,none⟩))/\W.cell? ⟨gr,0,none⟩=some (.pointer (some ⟨gd,0,none⟩))/\W.cell? ⟨gd,0,none⟩=some (.pointer (some ⟨gm,0,none⟩))/\W.cell? ⟨gm,0,none⟩=some (.pointer (some ⟨gt,0,none⟩))/\W.cell? ⟨gt,0,none⟩=some (.pointer (some ⟨gk,0,none⟩))/\W.cell? ⟨gk,0,none⟩=some (.pointer (some ⟨ge,0,none⟩))/\W.cell? ⟨ge,0,none⟩=some (.pointer (some ⟨g,0,none⟩))):=fun W bW=>by
  exact⟨(bW.cell (p:=⟨P0,0,none⟩) lE).trans cE,(E1.next bW).way⟩
 have CP:Hid (∀ W,aw W gv gr gd gm gt gk ge g s (l+1) (max m (l+1)) T->Out (·=g) w W->W.cell? ⟨P0,0,none⟩=some (.pointer (some ⟨gv,0,none⟩))->W.cell? ⟨P0+1,0,none⟩=some (.slice gb (wl C) cb)->Calls Tryz.prog 77 #[.slice ga (wl A) ca,.slice gb (wl C) cb,.int .i64 (h:Int),.func (.func 82) #[] #[.pointer (some ⟨P0,0,none⟩),.pointer (some ⟨P0+1,0,none⟩)]] W fun e w'=>∃ q r gq gx s' m',e=.returned (.tuple #[q,r])/\aO gq (gq+1) w' q (A/C)/\aO gx (gx+1) w' r (A%C)/\(gq≠gx/\w.heap.size<=gq/\w.heap.size<=gx)/\aw w' gv gr gd gm gt gk ge g s' (l+1) m' T/\s<=s'/\s'<=s+((P*eF (f+1) n:Nat):Int)/\m<=m'/\m'<=max m (l+((iF n+dI n:Nat):Int))/\Out (·=g) w w'):=fun W EW oW d0 d1=>by
  have sz:=oW.size
  have l0:=World.block_lt_of_cell? _ _ d0
  have l1:=World.block_lt_of_cell? _ _ d1
  refine(qj W g _ _ A C h 82 Q P #[] #[.pointer (some ⟨P0,0,none⟩),.pointer (some ⟨P0+1,0,none⟩)] _ (hE.rcp.inC oW hu) (hE.rcp.inC oW hv) hC (by omega) (by omega) hQ hQ0 hP (by omega) (fun W' o'=>hE.rcp.inC (oW.trans o') hu)
   (zk f IH w W.heap.size P0 (P0+1) gv gr gd gm gt gk ge g s (l+1) (max m (l+1)) T _ A C n h P h0 h1 (by omega) (by omega) hn hh hn2 (by omega) l0 l1 EW.lts (by omega) (by omega) hv hT sz) ⟨s,_,EW,hE.rcp.tb oW hT,hE.rcp.inC oW hv,d0,d1,Int.le_refl _,by omega,Int.le_refl _,by omega⟩).mono ?_
  rintro e w' ⟨q,r,gq,gx,k1,k2,k3,⟨k4,k5,k6⟩,⟨s',m',j1,_,_,_,_,j2,j3,j4,j5⟩,k8⟩
  exact⟨q,r,gq,gx,s',m',k1,k2,k3,⟨k4,by omega,by omega⟩,j1,j2,j3,by omega,by omega,oW.trans k8⟩
 have HF:Hid (∀ W w' q r gq gx s' m',aO gq (gq+1) W q (A/C)->aO gx (gx+1) W r (A%C)->(gq≠gx/\w.heap.size<=gq/\w.heap.size<=gx)->aw W gv gr gd gm gt gk ge g s' (l+1) m' T->s<=s'->s'<=s+((P*eF (f+1) n:Nat):Int)->m<=m'->m'<=max m (l+((iF n+dI n:Nat):Int))->Out (·=g) w W->Met w' g 0 s' l m'->Touch g 0 3 W w'->jC w gv gr gd gm gt gk ge g s l m T A C (P*eF (f+1) n) (iF n+dI n) (.returned (.tuple #[q,r])) w'):=fun W w' q r gq gx s' m' a1 a2 a3 a4 a5 a6 a7 a8 a9 M t=>by
  have o:=Out.of_grown t.grown
  exact⟨q,r,gq,gx,s',m',rfl,a4.rcp.newB o a1,a4.rcp.newB o a2,a3,a4.step M t,a5,a6,a7,a8,a9.trans o⟩
 obtain⟨h2i,hh2⟩:∃ z:Int,z=(h:Int):=⟨_,rfl⟩
 have hdiv:((wl C:Nat):Int).tdiv 2=(h:Int):=by rw[hh,hn];rfl
 have hwh:IntKind.i64.wrap (h:Int)=(h:Int):=by rw[IntKind.wrap_i64];omega
 have hmf:∀(fn:Fn) (first cap:Array Value) (w:World),(Instr.makeFunc fn first cap).run Tryz.prog w=.ok (.func fn first cap) w:=fun _ _ _ _=>rfl
 have HL:=hide h2
 have HL3:=hide (show l<=1000 by omega)
 generalize jC w gv gr gd gm gt gk ge g s l m T A C (P*eF (f+1) n) (iF n+dI n)=SA at *
 generalize wl A=na at *
 generalize wl C=nb at *
 clear hh2 h2i IH hE hT h0 h1 h2 h3 hu hv hC hn hh hf hQ hQ0 hP hs1 hs2 E1 bE bB b1 e0 e1 e2 e3 e4 e5 e6 lE lB hlh hl16 wC lts
 suffices H:Calls Tryz.prog 52 #[.pointer (some ⟨gv,0,none⟩),.slice ga na ca,.slice gb nb cb] w (fun e w'=>∃ v,e=.returned v/\SA (.returned v) w') from H.mono (fun e w' ⟨v,he,h⟩=>he▸h)
 go_enter_defers Tryz.func52,Tryz.ntmps52
 go_wp2_with fail
 with_reducible refine(ae CS).mono ?_
 rintro e w2 ⟨rfl,b2⟩
 obtain⟨cE,e0,e1,e2,e3,e4,e5,e6⟩:=ae HC _ b2
 clear CS
 go_wp2_with fail
 with_reducible refine(ae CE _ b2).mono ?_
 rintro e w3 ⟨rfl,E3,o3,B0,B1⟩
 obtain⟨e0,e1,e2,e3,e4,e5,e6⟩:=E3.way
 have cE:=B0.cell
 have cB:=B1.cell
 clear CE HC b2
 go_wp2_with fail
 with_reducible refine(ae CP _ E3 o3 cE cB).mono ?_
 rintro e w4 ⟨q,r,gq,gx,s4,m4,rfl,n1,n2,hg,E4,a1,a2,a3,a4,o4⟩
 have M4:=hide E4.met
 have HF:=hide (fun w'=>ae HF w4 w' q r gq gx s4 m4 n1 n2 hg E4 a1 a2 a3 a4 o4)
 obtain⟨qa,ql,qc,rfl⟩:=n1.toW.shape
 obtain⟨ra,rl,rc,rfl⟩:=n2.toW.shape
 clear CP n1 n2 hg E4 a1 a2 a3 a4 o4 E3 o3 B0 B1 e0 e1 e2 e3 e4 e5 e6 cE cB
 go_wp2
 refine leaves_cons (f:=81) (args:=#[.pointer (some ⟨g,0,none⟩)]) (by simp) (by simp[go_sem]) ?_
 refine(dn l .returning (ae M4) (by have:=ae HL;omega) (by have:=ae HL;omega) (by have:=ae HL3;omega)).mono ?_
 rintro e u' w9 ⟨rfl,rfl,M9,T9⟩
 refine⟨_,results_tmp2 rfl _ _ _,.tuple #[.slice qa ql qc,.slice ra rl rc],?_,ae HF _ M9 T9⟩
 rfl
theorem Oi{f A C:Nat}(hC:0<C):jL A C<=hF f (wl C) (wl (A/C)):=by
 have:=Np (A:=A) hC
 unfold jL hF
 split
 ·omega
 ·have:(wl A-wl C+1)*(wl C+1)<=(wl (A/C)+1)*(wl C+1):=Nat.mul_le_mul_right _ (by omega)
  omega
theorem uU(T:Tab):4<=T.clamp.row.getD 3 0/\4<=T.clamp.row.getD 4 0:=by
 unfold Tab.clamp Tab.row
 simp[cl]
 omega
theorem zi:∀ f,Ai f:=by
 intro f
 induction f with
 |zero=>
  intro w gv gr gd gm gt gk ge g s l m T u v A C hE hT h0 h1 h2 h3 hu hv hC hf
  have:=ay.1 (Nat.le_zero.1 hf)
  omega
 |succ f IH=>
  intro w gv gr gd gm gt gk ge g s l m T u v A C hE hT h0 h1 h2 h3 hu hv hC hf
  by_cases hs:(wl C:Int)<T.clamp.row.getD 3 0\/(wl (A/C):Int)<T.clamp.row.getD 3 0
  ·have hl:=Oi (f:=f+1) (A:=A) hC
   refine(wB w gv gr gd gm gt gk ge g s l m T u v A C hE h0 (by omega) h2 (by omega) hu hv hC hs).mono ?_
   rintro e w' ⟨q,r,gq,gx,s',m',k1,k2,k3,k4,k5,k6,k7,k8,k9,k0⟩
   exact⟨q,r,gq,gx,s',m',k1,k2,k3,k4,k5,k6,by omega,k8,by omega,k0⟩
  ·have ht:=(uU T).1
   have hs':¬(wl C:Int)<T.clamp.row.getD 3 0/\¬(wl (A/C):Int)<T.clamp.row.getD 3 0:=by omega
   have hP:cd (wl (A/C)) (wl C/2)*eF (f+1) (wl C)<=hF (f+1) (wl C) (wl (A/C)):=by unfold hF;omega
   refine(tU f IH w gv gr gd gm gt gk ge g s l m T u v A C (wl C) (wl C/2) (wl (A/C)) (cd (wl (A/C)) (wl C/2)) hE hT h0 (by omega) h2 h3 hu hv hC rfl rfl (by omega) hf rfl (by omega) rfl hs'.1 hs'.2).mono ?_
   rintro e w' ⟨q,r,gq,gx,s',m',k1,k2,k3,k4,k5,k6,k7,k8,k9,k0⟩
   exact⟨q,r,gq,gx,s',m',k1,k2,k3,k4,k5,k6,by omega,k8,k9,k0⟩
end Go.Proofs.YtpdpnomocbehkaaGreatDoor
/- Halves,byReciprocal and DivMod of the landed package div. -/
namespace Go.Proofs.YtpdpnomocbehkaaGreatDoor
open Go.RowKit
def de(w:World)(gv gr gd gm gt gk ge g:Nat)(s l m:Int)(T:Tab)(A C K M:Nat)(e:Ending)(w':World):Prop:=
 ∃ q r gq gx s' m',e=.returned (.tuple #[q,r,.int .i64 0])/\aO gq (gq+1) w' q (A/C)/\aO gx (gx+1) w' r (A%C)/\(gq≠gx/\w.heap.size<=gq/\w.heap.size<=gx)/\aw w' gv gr gd gm gt gk ge g s' l m' T/\s<=s'/\s'<=s+(K:Int)/\m<=m'/\m'<=max m (l+(M:Int))/\Out (·=g) w w'
theorem KV(w:World)(gv:Nat)(u v:Value)(A:Nat)(hu:aX w u A)(hv:aX w v 0):
  Calls Tryz.prog 23 #[.pointer (some ⟨gv,0,none⟩),u,v] w fun e w'=>e=.returned (.tuple #[.slice none 0 0,.slice none 0 0,.int .i64 2])/\w'=w:=by
 obtain⟨a,ia,CA⟩:=bQ hu
 obtain⟨d,jd,CD⟩:=bQ hv
 have CA:=hide CA
 have CD:=hide CD
 obtain⟨ga,_,_,ca,rfl,_,_⟩:=ia.is
 obtain⟨gb,_,_,cb,rfl,_,_⟩:=jd.is
 obtain⟨gu,lu,cu,rfl⟩:=hu.inW.is
 obtain⟨gw,lw,cw,rfl⟩:=hv.inW.is
 rw[aZ]at CD
 generalize wl A=na at *
 clear hu hv ia jd
 go_enter Tryz.func23,Tryz.ntmps23
 go_wp2_with fail
 with_reducible refine(ae CA).mono ?_
 rintro e w1 ⟨rfl,hw⟩
 obtain rfl:=hw.symm
 clear hw CA
 go_wp2_with fail
 with_reducible refine(ae CD).mono ?_
 rintro e w1 ⟨rfl,hw⟩
 obtain rfl:=hw.symm
 clear hw CD
 go_wp2
 go_ret3
 exact⟨rfl,rfl⟩
set_option maxRecDepth 100000 in
set_option maxHeartbeats 3200000 in
theorem KU(w:World)(gv gr gd gm gt gk ge g:Nat)(s l m:Int)(T:Tab)(u v:Value)(A C:Nat)
  (hE:aw w gv gr gd gm gt gk ge g s l m T) (h0:0<=s) (h1:s<=1152921504606846976) (h2:0<=l) (h3:l<=1000) (hu:aX w u A) (hv:aX w v C) (hC:0<C)
  (hs:(wl C:Int)<T.clamp.row.getD 3 0\/(wl (A/C):Int)<T.clamp.row.getD 3 0):
  Calls Tryz.prog 23 #[.pointer (some ⟨gv,0,none⟩),u,v] w (de w gv gr gd gm gt gk ge g s l m T A C (jL A C) 0):=by
 obtain⟨a,ia,CA⟩:=bQ hu
 obtain⟨d,jd,CD⟩:=bQ hv
 have CA:=hide CA
 have CD:=hide CD
 have CS:=hide (en w gv gr gd gm gt gk ge g s l m T a d A C _ true hE ia jd hC rfl (by rw[eq_comm,decide_eq_true_iff];exact hs))
 have CL:Hid (∀ W,Below w.heap.size w W->Calls Tryz.prog 24 #[.pointer (some ⟨gd,0,none⟩),a,d] W fun e w'=>∃ q r,e=.returned (.tuple #[q,r,.int .i64 0])/\(∃ x y z,q=.slice x y z)/\(∃ x y z,r=.slice x y z)/\de w gv gr gd gm gt gk ge g s l m T A C (jL A C) 0 (.returned (.tuple #[q,r,.int .i64 0])) w'):=fun W bw=>by
  refine(iT W gr gd gm gt gk ge g s l m T _ _ A C (hE.next bw).rcp h0 h1 h2 h3 (ia.next bw).inM (jd.next bw).inM hC).mono ?_
  rintro e w' ⟨q,r,gq,gx,k1,k2,k3,⟨k4,k5,k6⟩,k7,k8⟩
  have sz:=bw.size
  exact⟨q,r,k1,k2.toW.shape,k3.toW.shape,q,r,gq,gx,_,m,rfl,k2,k3,⟨k4,by omega,by omega⟩,(hE.next bw).kept k8 k7,by omega,Int.le_refl _,Int.le_refl _,by omega,(Out.of_below bw).trans k8⟩
 have HC:Hid (∀ W,Below w.heap.size w W->W.cell? ⟨gv,0,none⟩=some (.pointer (some ⟨gr,0,none⟩))/\W.cell? ⟨gr,0,none⟩=some (.pointer (some ⟨gd,0,none⟩))):=fun W bW=>by
  obtain⟨d0,d1,_⟩:=(hE.next bW).way
  exact⟨d0,d1⟩
 have hnb:¬(wl C:Int)=0:=by have:=ay (n:=C);omega
 obtain⟨ga,_,_,ca,rfl,_,_⟩:=ia.is
 obtain⟨gb,_,_,cb,rfl,_,_⟩:=jd.is
 obtain⟨gu,lu,cu,rfl⟩:=hu.inW.is
 obtain⟨gw,lw,cw,rfl⟩:=hv.inW.is
 generalize de w gv gr gd gm gt gk ge g s l m T A C (jL A C) 0=SA at *
 generalize wl A=na at *
 generalize wl C=nb at *
 clear hu hv ia jd hE h0 h1 h2 h3 hC hs
 suffices H:Calls Tryz.prog 23 #[.pointer (some ⟨gv,0,none⟩),.slice gu lu cu,.slice gw lw cw] w (fun e w'=>∃ v,e=.returned v/\SA (.returned v) w') from H.mono (fun e w' ⟨v,he,h⟩=>he▸h)
 go_enter Tryz.func23,Tryz.ntmps23
 go_wp2_with fail
 with_reducible refine(ae CA).mono ?_
 rintro e w1 ⟨rfl,hw⟩
 obtain rfl:=hw.symm
 clear hw CA
 go_wp2_with fail
 with_reducible refine(ae CD).mono ?_
 rintro e w1 ⟨rfl,hw⟩
 obtain rfl:=hw.symm
 clear hw CD
 go_wp2_with fail
 with_reducible refine(ae CS).mono ?_
 rintro e w1 ⟨rfl,b1⟩
 obtain⟨e0,e1⟩:=ae HC _ b1
 clear CS HC
 go_wp2_with fail
 with_reducible refine(ae CL _ b1).mono ?_
 rintro e w2 ⟨q,r,rfl,⟨_,_,_,rfl⟩,⟨_,_,_,rfl⟩,h⟩
 have HX:=hide h
 clear CL h
 go_wp2
 go_ret3
 exact⟨_,rfl,ae HX⟩
theorem sk(A C p:Nat):A*2^p/(C*2^p)=A/C/\A*2^p%(C*2^p)/2^p=A%C:=by
 have hp:=Nat.two_pow_pos p
 constructor
 ·exact Nat.mul_div_mul_right A C hp
 ·rw[Nat.mul_mod_mul_right,Nat.mul_div_cancel _ hp]
theorem OU{A p:Nat}(h:p<=63):wl (A*2^p)<=wl A+1:=by
 refine cI _ _ ?_
 rw[Nat.pow_succ]
 have h2:(2:Nat)^p<=18446744073709551616:=Nat.le_trans (Nat.pow_le_pow_right (by omega) h) (by decide)
 exact Nat.mul_lt_mul_of_lt_of_le (eU (Nat.le_refl _)) h2 (by omega)
set_option maxRecDepth 100000 in
set_option maxHeartbeats 3200000 in
theorem wF(w:World)(gv gr gd gm gt gk ge g:Nat)(s l m:Int)(T:Tab)(u v:Value)(A C:Nat)
  (hE:aw w gv gr gd gm gt gk ge g s l m T) (hT:TB w) (h0:0<=s) (h1:s+(hF (wl C) (wl C) (wl (A/C)):Int)<=1143914305352105984) (h2:0<=l) (h3:l<=900) (hu:aX w u A) (hv:aX w v C) (hC:0<C) (hwA:wl A<=16383)
  (hs1:¬(wl C:Int)<T.clamp.row.getD 3 0) (hs2:¬(wl (A/C):Int)<T.clamp.row.getD 3 0):
  Calls Tryz.prog 23 #[.pointer (some ⟨gv,0,none⟩),u,v] w (de w gv gr gd gm gt gk ge g s l m T A C (hF (wl C) (wl C) (wl (A/C))) (iF (wl C)+dI (wl C))):=by
 obtain⟨a,ia,CA⟩:=bQ hu
 obtain⟨d,jd,CD⟩:=bQ hv
 have CA:=hide CA
 have CD:=hide CD
 have CS:=hide (en w gv gr gd gm gt gk ge g s l m T a d A C _ false hE ia jd hC rfl (by rw[eq_comm,decide_eq_false_iff_not];omega))
 have wC:=jd.wlM
 have hl16:=zl wC
 have ht4:=(uU T).1
 obtain⟨ga,_,_,ca,rfl,_,_⟩:=id ia.is
 obtain⟨gb,b,o,cb,rfl,hcb,hgb⟩:=id jd.is
 obtain rfl:=hgb (by omega)
 obtain⟨ys,hyl,hyr,hyc,hyv⟩:=jd.head (by omega)
 obtain⟨m1,hm1⟩:∃ m1,wl C=m1+1:=⟨wl C-1,by omega⟩
 have htop:=hyc.2 (by omega)
 rw[hyl,hm1,Nat.add_sub_cancel]at htop
 have htl:=hyc.1 m1
 obtain⟨x,hx⟩:∃ x:Nat,x=ys.getD m1 0:=⟨_,rfl⟩
 rw[<-hx]at htop htl
 have HM:Hid (∀(p:Nat) B W r,p<=63->9223372036854775808<=x*2^p->x*2^p<18446744073709551616->ah B W r (C*2^p)->wl (C*2^p)=wl C):=fun p B W r hp a1 a2 nr=>by
  obtain⟨_,_,_,ds,_,_,cD,vD,_⟩:=nr.rep
  obtain⟨ldd,_⟩:=sr (m:=m1) hyc (by omega) cD hp (by rw[<-hx];exact a1) (by rw[<-hx];exact a2) (by rw[vD,hyv])
  have:=fm cD
  rw[vD]at this
  omega
 have HCx:Hid (∀ W,Below w.heap.size w W->W.cell? ⟨b,o+m1,none⟩=some (.int .u64 (x:Int))):=fun W bW=>by
  have:=(hyr.next bW).cell m1 (by omega)
  rw[<-hx]at this
  exact this
 have CZ:=hide (fun W=>zx (x:Int) W (by omega) (by omega))
 have C1:Hid (∀ W (p:Nat),Below w.heap.size w W->p<=63->Calls Tryz.prog 53 #[.slice ga (wl A) ca,.int .i64 (p:Int)] W fun e w'=>∃ r,e=.returned r/\ah w.heap.size w' r (A*2^p)/\Below w.heap.size w w'):=fun W p bW hp=>(oC W _ (p:Int) A p (by omega) (ia.next bW).inM.inW).mono fun e w' ⟨r,k1,k2,k3⟩=>⟨r,k1,k2.mono bW.size,ag bW k3⟩
 have C2:Hid (∀ W (p:Nat),Below w.heap.size w W->p<=63->Calls Tryz.prog 53 #[.slice (some ⟨b,o,none⟩) (wl C) cb,.int .i64 (p:Int)] W fun e w'=>∃ r,e=.returned r/\ah w.heap.size w' r (C*2^p)/\Below W.heap.size W w'):=fun W p bW hp=>(oC W _ (p:Int) C p (by omega) (jd.next bW).inM.inW).mono fun e w' ⟨r,k1,k2,k3⟩=>⟨r,k1,k2.mono bW.size,k3⟩
 have C3:Hid (∀ W (p:Nat) x y,Below w.heap.size w W->p<=63->ah w.heap.size W x (A*2^p)->ah w.heap.size W y (C*2^p)->wl (C*2^p)=wl C->Calls Tryz.prog 52 #[.pointer (some ⟨gv,0,none⟩),x,y] W fun e w'=>∃ q r gq gx s' m',e=.returned (.tuple #[q,r])/\aO gq (gq+1) w' q (A/C)/\aO gx (gx+1) w' r (A*2^p%(C*2^p))/\w.heap.size<=gq/\w.heap.size<=gx/\aw w' gv gr gd gm gt gk ge g s' l m' T/\s<=s'/\s'<=s+(hF (wl C) (wl C) (wl (A/C)):Int)/\m<=m'/\m'<=max m (l+((iF (wl C)+dI (wl C):Nat):Int))/\Out (·=g) w w'):=fun W p x y bW hp nx ny hw=>by
  have e1:=(sk A C p).1
  have hCp:0<C*2^p:=Nat.mul_pos hC (Nat.two_pow_pos p)
  have wAp:=OU (A:=A) hp
  have hh:=zi (wl C) W gv gr gd gm gt gk ge g s l m T x y (A*2^p) (C*2^p) (hE.next bW) (hT.next bW) h0 (by rw[e1,hw];exact h1) h2 (by rw[hw];omega) (nx.toC (by omega)) (ny.toC (by omega)) hCp (by omega)
  rw[e1,hw]at hh
  refine hh.mono ?_
  rintro e w' ⟨q,r,gq,gx,s',m',k1,k2,k3,⟨k4,k5,k6⟩,k7,k8,k9,k0,k11,k12⟩
  rw[e1]at k2
  have sz:=bW.size
  exact⟨q,r,gq,gx,s',m',k1,k2,k3,by omega,by omega,k7,k8,k9,k0,k11,(Out.of_below bW).trans k12⟩
 have C4:Hid (∀ W (p:Nat) q r gq gx (s' m':Int),p<=63->aO gq (gq+1) W q (A/C)->aO gx (gx+1) W r (A*2^p%(C*2^p))->w.heap.size<=gq->w.heap.size<=gx->aw W gv gr gd gm gt gk ge g s' l m' T->s<=s'->s'<=s+(hF (wl C) (wl C) (wl (A/C)):Int)->m<=m'->m'<=max m (l+((iF (wl C)+dI (wl C):Nat):Int))->Out (·=g) w W->wl (C*2^p)=wl C->Calls Tryz.prog 54 #[r,.int .i64 (p:Int)] W fun e w'=>∃ r',e=.returned r'/\(∃ x y z,r'=.slice x y z)/\de w gv gr gd gm gt gk ge g s l m T A C (hF (wl C) (wl C) (wl (A/C))) (iF (wl C)+dI (wl C)) (.returned (.tuple #[q,r',.int .i64 0])) w'):=fun W p q r gq gx s' m' hp nq nr sq sx E k1 k2 k3 k4 oW hw=>by
  have hCp:0<C*2^p:=Nat.mul_pos hC (Nat.two_pow_pos p)
  have wr:=aS (Nat.le_of_lt (Nat.mod_lt (A*2^p) hCp))
  refine(jY W r (p:Int) _ p (by omega) (nr.toW.wlW (by omega))).mono ?_
  rintro e w' ⟨r',j1,j2,j3⟩
  rw[(sk A C p).2]at j2
  have hlt:=oW.size
  obtain⟨gy,hy,ny⟩:=fg j2
  obtain⟨gz,hz1,hz2,nz⟩:=fW (X:=gy) (nq.toW.mono sq) hy (by omega)
  exact⟨r',j1,j2.shape,q,r',gz,gy,s',m',rfl,nz.next j3,ny,⟨hz1,by omega,by omega⟩,E.next j3,k1,k2,k3,k4,oW.next j3⟩
 have hnb:¬(wl C:Int)=0:=by omega
 obtain⟨gu,lu,cu,rfl⟩:=hu.inW.is
 obtain⟨gw,lw,cw,rfl⟩:=hv.inW.is
 have i1:((wl C:Nat):Int)-1=(m1:Int):=by omega
 have i2:IntKind.i64.wrap (m1:Int)=(m1:Int):=by rw[IntKind.wrap_i64];omega
 have i3:(m1:Int)<((wl C:Nat):Int):=by omega
 have i4:0<=(m1:Int):=by omega
 generalize de w gv gr gd gm gt gk ge g s l m T A C (hF (wl C) (wl C) (wl (A/C))) (iF (wl C)+dI (wl C))=SA at *
 generalize (hF (wl C) (wl C) (wl (A/C)):Int)=KF at *
 generalize max m (l+((iF (wl C)+dI (wl C):Nat):Int))=KM at *
 generalize wl A=na at *
 generalize hnbe:wl C=nb at *
 clear hu hv ia jd hE hT h0 h1 h2 h3 hwA hs1 hs2 hl16 ht4 hyl hyr hyc hyv hm1 hx htop htl wC hcb hnbe
 suffices H:Calls Tryz.prog 23 #[.pointer (some ⟨gv,0,none⟩),.slice gu lu cu,.slice gw lw cw] w (fun e w'=>∃ v,e=.returned v/\SA (.returned v) w') from H.mono (fun e w' ⟨v,he,h⟩=>he▸h)
 go_enter Tryz.func23,Tryz.ntmps23
 go_wp2_with fail
 with_reducible refine(ae CA).mono ?_
 rintro e w1 ⟨rfl,hw⟩
 obtain rfl:=hw.symm
 clear hw CA
 go_wp2_with fail
 with_reducible refine(ae CD).mono ?_
 rintro e w1 ⟨rfl,hw⟩
 obtain rfl:=hw.symm
 clear hw CD
 go_wp2_with fail
 with_reducible refine(ae CS).mono ?_
 rintro e w1 ⟨rfl,b1⟩
 have cx:=ae HCx _ b1
 clear CS HCx
 go_wp2_with fail
 with_reducible refine(ae CZ _).mono ?_
 rintro e w2 ⟨p,rfl,hp,hs1,hs2,hw⟩
 obtain rfl:=hw.symm
 have HS1:=hide (show 9223372036854775808<=x*2^p by simpa using hs1)
 have HS2:=hide (show x*2^p<18446744073709551616 by simpa using hs2)
 clear hw CZ hs1 hs2
 go_wp2_with fail
 with_reducible refine(ae C1 _ _ b1 hp).mono ?_
 rintro e w3 ⟨xa,rfl,n3,b3⟩
 have N3:=hide n3
 obtain⟨xg,xl,xc,rfl⟩:=n3.shape
 clear C1 n3 b1 cx
 go_wp2_with fail
 with_reducible refine(ae C2 _ _ b3 hp).mono ?_
 rintro e w4 ⟨ya,rfl,n4,b4⟩
 have HW:=ae HM p _ _ _ hp (ae HS1) (ae HS2) n4
 have HW':=hide HW
 have C3:=hide (ae C3 _ p _ _ (ag b3 b4) hp ((ae N3).next b4) n4 HW)
 obtain⟨yg,yl,yc,rfl⟩:=n4.shape
 clear C2 n4 b3 b4 N3 HW HM HS1 HS2
 go_wp2_with fail
 with_reducible refine(ae C3).mono ?_
 rintro e w5 ⟨q,r,gq,gx,s5,m5,rfl,n1,n2,a1,a2,E5,a3,a4,a5,a6,o5⟩
 have C4:=hide (ae C4 _ p q r gq gx s5 m5 hp n1 n2 a1 a2 E5 a3 a4 a5 a6 o5 (ae HW'))
 obtain⟨qa,ql,qc,rfl⟩:=n1.toW.shape
 obtain⟨ra,rl,rc,rfl⟩:=n2.toW.shape
 clear C3 n1 n2 a1 a2 E5 a3 a4 a5 a6 o5 HW'
 go_wp2_with fail
 with_reducible refine(ae C4).mono ?_
 rintro e w6 ⟨r',rfl,⟨_,_,_,rfl⟩,h⟩
 have HX:=hide h
 clear C4 h
 go_wp2
 go_ret3
 exact⟨_,rfl,ae HX⟩
def P8(P0 P1 P2 P3 gv gr gd gm gt gk ge g:Nat)(s l m:Int)(T:Tab)(d v:Value)(C V n K M:Nat)(i:Nat)(W:World):Prop:=
 ∃ s' m',aw W gv gr gd gm gt gk ge g s' l m' T/\TB W/\d6 W d C/\d6 W v V/\W.cell? ⟨P0,0,none⟩=some (.pointer (some ⟨gv,0,none⟩))/\W.cell? ⟨P1,0,none⟩=some d/\W.cell? ⟨P2,0,none⟩=some v/\W.cell? ⟨P3,0,none⟩=some (.int .i64 (n:Int))/\s<=s'/\s'<=s+((i*K:Nat):Int)/\m<=m'/\m'<=max m (l+(M:Int))
theorem Gj(w:World)(u x:Value)(X Y k:Nat)(hu:pg w u X k)(hx:d6 w x Y)(hk:k+wl Y<=16384):
  Calls Tryz.prog 79 #[.slice (some ⟨w.heap.size,0,none⟩) 2 2] (w.alloc (.cells #[u,x] 29)) fun e w'=>∃ r,e=.returned r/\aX w' r (X+18446744073709551616^k*Y)/\Below w.heap.size w w':=by
 obtain⟨ga,b,o,cap,xs,rfl,hl,hr,hd,hv⟩:=hu
 obtain⟨gb,b',o',cap',ys,rfl,hr',hc',hv',_⟩:=hx
 have e:=fm hc'
 rw[hv']at e
 have bl:Below w.heap.size w (w.alloc (.cells #[.slice ga k cap,.slice gb ys.length cap'] 29)):=(Below.refl _ _).alloc (Nat.le_refl _) _
 have kk:=heap_alloc_new w (.cells #[.slice ga k cap,.slice gb ys.length cap'] 29)
 refine(pF (w.alloc (.cells #[.slice ga k cap,.slice gb ys.length cap'] 29)) w.heap.size ga gb b o cap k b' o' cap' ys.length xs ys hl rfl (hr.next bl) (hr'.next bl) (by omega) (by omega) (cell_of_row _ w.heap.size 0 _ _ (0,0) kk) (cell_of_row _ w.heap.size 1 _ _ (0,0) kk)).mono ?_
 rintro e w' ⟨r,rfl,ho,hb⟩
 obtain⟨gr,br,cr,rfl,hrl,hRr,_⟩:=fG ho
 exact⟨_,rfl,⟨gr,br,0,cr,xs++ys,by rw[hrl],hRr,fL hd hc'.1,by rw[cJ,hl,hv,hv'],by omega⟩,ag bl hb⟩
set_option maxRecDepth 100000 in
set_option maxHeartbeats 3200000 in
theorem Eo(w:World)(P0 P1 P2 P3 gv gr g:Nat)(hg:P0≠g/\P1≠g/\P2≠g/\P3≠g/\gv≠g)(u x d v:Value)(X Y k n:Nat)(SA:Ending->World->Prop)(hu:pg w u X k)(hk:k+wl Y<=16384)(hx:d6 w x Y)(hd:∃ a l c,d=.slice a l c)(hv:∃ a l c,v=.slice a l c)
  (c0:w.cell? ⟨P0,0,none⟩=some (.pointer (some ⟨gv,0,none⟩))) (c1:w.cell? ⟨P1,0,none⟩=some d) (c2:w.cell? ⟨P2,0,none⟩=some v) (c3:w.cell? ⟨P3,0,none⟩=some (.int .i64 (n:Int))) (c4:w.cell? ⟨gv,0,none⟩=some (.pointer (some ⟨gr,0,none⟩)))
  (H:∀ W r,Below w.heap.size w W->aX W r (X+18446744073709551616^k*Y)->Calls Tryz.prog 27 #[.pointer (some ⟨gr,0,none⟩),r,d,v,.int .i64 (n:Int)] W fun e w'=>∃ q r,e=.returned (.tuple #[q,r,.int .i64 0])/\(∃ x y z,q=.slice x y z)/\(∃ x y z,r=.slice x y z)/\SA (.returned (.tuple #[q,r])) w'/\Out (·=g) w w'):
  Calls Tryz.prog 78 #[u,x,.pointer (some ⟨P0,0,none⟩),.pointer (some ⟨P1,0,none⟩),.pointer (some ⟨P2,0,none⟩),.pointer (some ⟨P3,0,none⟩)] w SA:=by
 obtain⟨da,dl,dc,rfl⟩:=hd
 obtain⟨va,vl,vc,rfl⟩:=hv
 have HH:=hide H
 clear H
 have HC:Hid (∀ W,Below w.heap.size w W->W.cell? ⟨P0,0,none⟩=some (.pointer (some ⟨gv,0,none⟩))/\W.cell? ⟨P1,0,none⟩=some (.slice da dl dc)/\W.cell? ⟨P2,0,none⟩=some (.slice va vl vc)/\W.cell? ⟨P3,0,none⟩=some (.int .i64 (n:Int))/\W.cell? ⟨gv,0,none⟩=some (.pointer (some ⟨gr,0,none⟩))):=fun W b=>⟨(b.cell (p:=⟨P0,0,none⟩) (World.block_lt_of_cell? _ _ c0)).trans c0,(b.cell (p:=⟨P1,0,none⟩) (World.block_lt_of_cell? _ _ c1)).trans c1,(b.cell (p:=⟨P2,0,none⟩) (World.block_lt_of_cell? _ _ c2)).trans c2,(b.cell (p:=⟨P3,0,none⟩) (World.block_lt_of_cell? _ _ c3)).trans c3,(b.cell (p:=⟨gv,0,none⟩) (World.block_lt_of_cell? _ _ c4)).trans c4⟩
 have HO:Hid (∀ W,Out (·=g) w W->W.cell? ⟨P0,0,none⟩=some (.pointer (some ⟨gv,0,none⟩))/\W.cell? ⟨P1,0,none⟩=some (.slice da dl dc)/\W.cell? ⟨P2,0,none⟩=some (.slice va vl vc)/\W.cell? ⟨P3,0,none⟩=some (.int .i64 (n:Int))/\W.cell? ⟨gv,0,none⟩=some (.pointer (some ⟨gr,0,none⟩))):=fun W b=>⟨b.cell c0 hg.1,b.cell c1 hg.2.1,b.cell c2 hg.2.2.1,b.cell c3 hg.2.2.2.1,b.cell c4 hg.2.2.2.2⟩
 have CC:Hid (Calls Tryz.prog 79 #[.slice (some ⟨w.heap.size,0,none⟩) 2 2] (w.alloc (.cells #[u,x] 29)).drew fun e w'=>∃ r,e=.returned r/\aX w' r (X+18446744073709551616^k*Y)/\Below w.heap.size w w'):=by
  show Calls Tryz.prog 79 #[.slice (some ⟨w.drew.heap.size,0,none⟩) 2 2] (w.drew.alloc (.cells #[u,x] 29)) _
  exact(Gj w.drew u x X Y k (hu.next ((Below.refl _ w).drew)) (hx.next ((Below.refl _ w).drew)) hk).mono fun e w' ⟨r,k1,k2,k3⟩=>⟨r,k1,k2,ag ((Below.refl _ w).drew) k3⟩
 obtain⟨xa,_,_,xc,rfl,_,_⟩:=hx.is
 obtain⟨ua,_,_,uc,_,rfl,_⟩:=hu
 have bl:Below w.heap.size w w.drew:=(Below.refl _ _).drew
 have bA:Below w.heap.size w (w.alloc (.cells #[.slice ua k uc,.slice xa (wl Y) xc] 29)).drew:=((Below.refl _ w).alloc (Nat.le_refl _) _).drew
 generalize wl Y=ly at *
 clear c0 c1 c2 c3 c4 hx
 suffices H:Calls Tryz.prog 78 #[.slice ua k uc,.slice xa ly xc,.pointer (some ⟨P0,0,none⟩),.pointer (some ⟨P1,0,none⟩),.pointer (some ⟨P2,0,none⟩),.pointer (some ⟨P3,0,none⟩)] w (fun e w'=>∃ v,e=.returned v/\SA (.returned v) w') from H.mono (fun e w' ⟨v,he,h⟩=>he▸h)
 go_enter Tryz.func78,Tryz.ntmps78
 go_wp2_with fail
 (try simp only[List.append_eq,List.cons_append,List.nil_append])
 go_region_held3 (fun w'=>w'.cell? ⟨P0,0,none⟩=some (.pointer (some ⟨gv,0,none⟩))/\w'.cell? ⟨P1,0,none⟩=some (.slice da dl dc)/\w'.cell? ⟨P2,0,none⟩=some (.slice va vl vc)/\w'.cell? ⟨P3,0,none⟩=some (.int .i64 (n:Int))/\w'.cell? ⟨gv,0,none⟩=some (.pointer (some ⟨gr,0,none⟩))) (first|(exact ae HC _ bl)|(exact ae HC _ bA)|(exact ae HO _ o3)|go_keep) (first
  |(with_reducible refine(ae CC).mono ?_;rintro e w2 ⟨r2,rfl,n2,bl⟩)
  |(with_reducible refine(ae HH _ _ bl n2).mono ?_;rintro e w3 ⟨q,r,rfl,⟨_,_,_,rfl⟩,⟨_,_,_,rfl⟩,h3,o3⟩)
  |fail)
 have HX:=hide h3
 clear CC HH HC HO h3 bl bA o3 n2
 go_wp2
 go_ret2
 exact⟨_,rfl,ae HX⟩
theorem BZ(w0:World)(B P0 P1 P2 P3 gv gr gd gm gt gk ge g:Nat)(s l m:Int)(T:Tab)(d v:Value)(A C b n k P N:Nat)(h0:0<=s)(h1:s+((P*qT n b C:Nat):Int)<=1143914305352105984)(h2:0<=l)(h3:l<=1000)(b0:2^b<=C)(b1:C<2^(b+1))(hn:n<=1048575)(hkL:k+wl C<=16384)
  (hX:∀ X,X<=A->X<C*18446744073709551616^k->X<=2^n) (hN:(n-b+64)/64<=N) (hN1:wl C<=N) (hN2:N<=16384) (bd:P0<B/\P1<B/\P2<B/\P3<B) (b2:gv<B/\gr<B/\gd<B/\gm<B/\gt<B/\gk<B/\ge<B/\g<B) (hg:P0≠g/\P1≠g/\P2≠g/\P3≠g) (hd0:d6 w0 d C) (hv0:d6 w0 v (2^n/C)) (ht0:TB w0) (hwB:w0.heap.size<=B):
  Nz B g A C k 78 P #[] #[.pointer (some ⟨P0,0,none⟩),.pointer (some ⟨P1,0,none⟩),.pointer (some ⟨P2,0,none⟩),.pointer (some ⟨P3,0,none⟩)] (P8 P0 P1 P2 P3 gv gr gd gm gt gk ge g s l m T d v C (2^n/C) n (qT n b C) (dI N)) where
 go:=fun args W=>by kernel_rfl
 next:=fun i W W' hS o=>by
  obtain⟨s',m',E,t,jd,jv,c0,c1,c2,c3,k1,k2,k3,k4⟩:=hS
  obtain⟨a0,a1,a2,a3,a4,a5,a6,a7⟩:=b2
  obtain⟨d0,d1,d2,d3⟩:=bd
  refine⟨s',m',⟨o.cell E.ptr (by show ¬B<=gv;omega),E.rcp.out o (by show ¬B<=gr;omega) (by show ¬B<=gd;omega) (by show ¬B<=gm;omega) (by show ¬B<=gt;omega) (by show ¬B<=gk;omega) (by show ¬B<=ge;omega) (by show ¬B<=g;omega),E.nm⟩,ht0.far t (o.mono fun k hk=>Nat.le_trans hwB hk),tV hd0 hwB jd o,tV hv0 hwB jv o,o.cell c0 (by show ¬B<=P0;omega),o.cell c1 (by show ¬B<=P1;omega),o.cell c2 (by show ¬B<=P2;omega),o.cell c3 (by show ¬B<=P3;omega),k1,k2,k3,k4⟩
 call:=fun i W u x X Y hi hB hS hu hx hY hXA=>by
  obtain⟨s',m',E,t,jd,jv,c0,c1,c2,c3,k1,k2,k3,k4⟩:=hS
  have e:(#[]++#[u,x]++#[.pointer (some ⟨P0,0,none⟩),.pointer (some ⟨P1,0,none⟩),.pointer (some ⟨P2,0,none⟩),.pointer (some ⟨P3,0,none⟩)]:Array Value)=#[u,x,.pointer (some ⟨P0,0,none⟩),.pointer (some ⟨P1,0,none⟩),.pointer (some ⟨P2,0,none⟩),.pointer (some ⟨P3,0,none⟩)]:=by simp
  rw[e]
  have hK:i*qT n b C+qT n b C<=P*qT n b C:=by
   have:=Nat.mul_le_mul_right (qT n b C) (show i+1<=P from hi)
   rw[Nat.succ_mul]at this
   exact this
  have hi1:(i+1)*qT n b C=i*qT n b C+qT n b C:=Nat.succ_mul _ _
  have wY:=aS (Nat.le_of_lt hY)
  have hXl:X<18446744073709551616^k:=by
   obtain⟨_,_,_,_,xs,_,e1,_,e2,e3⟩:=hu
   rw[<-e3, <-e1]
   exact ak e2
  have hXC:Y*18446744073709551616^k+X<C*18446744073709551616^k:=by
   have:=Nat.mul_le_mul_right (18446744073709551616^k) (show Y+1<=C from hY)
   rw[Nat.succ_mul]at this
   omega
  have hx2:=hX _ hXA hXC
  have eX:X+18446744073709551616^k*Y=Y*18446744073709551616^k+X:=by rw[Nat.mul_comm];omega
  refine Eo W P0 P1 P2 P3 gv gr g ⟨hg.1,hg.2.1,hg.2.2.1,hg.2.2.2,E.nm⟩ u x d v X Y k n _ hu (by omega) hx jd.inM.inW.is jv.inM.inW.is c0 c1 c2 c3 E.ptr (fun W2 r bW hr=>?_)
  rw[eX]at hr
  have E2:=E.next bW
  refine(Gi W2 gr gd gm gt gk ge g s' l m' T r d v _ C b n N E2.rcp (t.next bW) (by omega) (by omega) h2 h3 hr (jd.next bW).inM (jv.next bW).inM b0 b1 hn hx2 hN hN1 hN2).mono ?_
  rintro e w' ⟨q,r,gq,gx,s2,m2,rfl,n1,n2,⟨_,g1,g2⟩,R2,j1,j2,j3,j4,o2⟩
  have sz:=bW.size
  have oW:Out (·=g) W w':=(Out.of_below bW).trans o2
  refine⟨q,r,rfl,n1.toW.shape,n2.toW.shape,⟨q,r,rfl,n1.toW.mono (by omega),n2.toW.mono (by omega),⟨s2,m2,E2.kept o2 R2,E.rcp.tb oW t,E.rcp.inC oW jd,E.rcp.inC oW jv,oW.cell c0 hg.1,oW.cell c1 hg.2.1,oW.cell c2 hg.2.2.1,oW.cell c3 hg.2.2.2,by omega,?_,by omega,by omega⟩,oW⟩,oW⟩
  rw[hi1]
  omega
end Go.Proofs.YtpdpnomocbehkaaGreatDoor
/- byReciprocal of the landed package div. -/
namespace Go.Proofs.YtpdpnomocbehkaaGreatDoor
open Go.RowKit
def J2(n b C P:Nat):Nat:=LU n b C+P*qT n b C
set_option maxRecDepth 100000 in
set_option maxHeartbeats 3200000 in
theorem BV(w:World)(gv gr gd gm gt gk ge g:Nat)(s l m:Int)(T:Tab)(u v:Value)(A C a b n k Q P:Nat)
  (hE:aw w gv gr gd gm gt gk ge g s l m T) (hT:TB w) (h0:0<=s) (h1:s+(J2 n b C P:Int)<=1143914305352105984) (h2:0<=l) (h3:l<=1000) (hu:d6 w u A) (hv:d6 w v C) (hC:0<C) (hwA:wl A<=16000)
  (a0:2^a<=A) (a1:A<2^(a+1)) (b0:2^b<=C) (b1:C<2^(b+1)) (hQ:Q=wl (A/C)) (hQ2:2<=Q) (hk:k=min (wl C) Q) (hn:n=min (a+1) (b+1+64*k)) (hP:P=cd Q k):
  Calls Tryz.prog 43 #[.pointer (some ⟨gv,0,none⟩),u,v] w (de w gv gr gd gm gt gk ge g s l m T A C (J2 n b C P) (dI (wl A))):=by
 have wC:=hv.wlM
 have wC0:0<wl C:=by have:=ay (n:=C);omega
 have hqle:=Bd (A:=A) hC
 have hnn:¬wl A<wl C:=fun h=>by have:=kO h;omega
 rw[<-hQ]at hqle
 have a64:a+1<=64*wl A:=by
  obtain⟨a',q0,q1,q2⟩:=hU (n:=A) (p:=wl A) (Nat.lt_of_lt_of_le (Nat.two_pow_pos _) a0) (Nat.le_refl _)
  have:a<a'+1:=(Nat.pow_lt_pow_iff_right (a:=2) (by omega)).1 (by omega)
  omega
 have b64:b+1<=64*wl C:=by
  obtain⟨b',q0,q1,q2⟩:=hU (n:=C) (p:=wl C) hC (Nat.le_refl _)
  have:b<b'+1:=(Nat.pow_lt_pow_iff_right (a:=2) (by omega)).1 (by omega)
  omega
 obtain⟨ga,_,_,ca,rfl, -, -⟩:=id hu.is
 obtain⟨gb,_,_,cb,rfl, -, -⟩:=id hv.is
 have bE:=Boxed.new w 26 (.pointer (some ⟨gv,0,none⟩))
 have bB:=Boxed.new (w.alloc (.cells #[.pointer (some ⟨gv,0,none⟩)] 26)) 29 (.slice gb (wl C) cb)
 rw[World.size_alloc]at bB
 replace bE:=bE.alloc (.cells #[.slice gb (wl C) cb] 29)
 have bW1:Below w.heap.size w ((w.alloc (.cells #[.pointer (some ⟨gv,0,none⟩)] 26)).alloc (.cells #[.slice gb (wl C) cb] 29)):=((Below.refl _ w).alloc (Nat.le_refl _) _).alloc (by simp) _
 obtain⟨W1,hW1⟩:∃ W1,(w.alloc (.cells #[.pointer (some ⟨gv,0,none⟩)] 26)).alloc (.cells #[.slice gb (wl C) cb] 29)=W1:=⟨_,rfl⟩
 rw[hW1]at bE bB bW1
 obtain⟨P0,hP0⟩:∃ P0,w.heap.size=P0:=⟨_,rfl⟩
 rw[hP0]at bE bB
 have lts:=hE.lts
 have E1:=hE.next bW1
 have HE1:=hide E1
 have cE:=bE.cell
 have cB:=bB.cell
 have lE:=bE.lt
 have lB:=bB.lt
 have CQ:Hid (∀ W,Below W1.heap.size W1 W->Calls Tryz.prog 76 #[.slice ga (wl A) ca,.slice gb (wl C) cb] W fun e w'=>e=.returned (.int .i64 (Q:Int))/\Below W1.heap.size W1 w'):=fun W bW=>by
  rw[hQ]
  exact(jq (hu.next (ag bW1 bW)) (hv.next (ag bW1 bW)) hC).mono fun e w' ⟨k1,k2⟩=>⟨k1,ag bW k2⟩
 have CA:Hid (∀ W,Below W1.heap.size W1 W->Calls Tryz.prog 25 #[.slice ga (wl A) ca] W fun e w'=>e=.returned (.int .i64 ((a+1:Nat):Int))/\w'=W):=fun W bW=>eu (hu.next (ag bW1 bW)).inM.inW a0 a1
 have CB:Hid (∀ W,Below W1.heap.size W1 W->Calls Tryz.prog 25 #[.slice gb (wl C) cb] W fun e w'=>e=.returned (.int .i64 ((b+1:Nat):Int))/\w'=W):=fun W bW=>eu (hv.next (ag bW1 bW)).inM.inW b0 b1
 have HC:Hid (∀ W,Below W1.heap.size W1 W->W.cell? ⟨P0,0,none⟩=some (.pointer (some ⟨gv,0,none⟩))/\W.cell? ⟨P0+1,0,none⟩=some (.slice gb (wl C) cb)/\W.cell? ⟨gv,0,none⟩=some (.pointer (some ⟨gr,0,none⟩))):=fun W bW=>by
  exact⟨(bW.cell (p:=⟨P0,0,none⟩) lE).trans cE,(bW.cell (p:=⟨P0+1,0,none⟩) lB).trans cB,(E1.next bW).ptr⟩
 have hkw:k<=wl C/\k<=Q/\2<=k\/wl C<2:=by omega
 have hnb64:n<=64*wl A:=by omega
 have hn0:n-b<=64*k+1:=by omega
 have hV:wl (2^n/C)<=wl A:=by
  have:=xF (n:=n) b0
  omega
 have CR:Hid (∀ W,Below W1.heap.size W1 W->Calls Tryz.prog 26 #[.pointer (some ⟨gr,0,none⟩),.slice gb (wl C) cb,.int .i64 (n:Int)] W fun e w'=>∃ va vl vc s' m',e=.returned (.tuple #[.slice va vl vc,.int .i64 0])/\ah W.heap.size w' (.slice va vl vc) (2^n/C)/\aw w' gv gr gd gm gt gk ge g s' l m' T/\s<=s'/\s'<=s+(LU n b C:Int)/\m<=m'/\m'<=max m (l+(dI (wl A):Int))/\Out (·=g) W w'):=fun W bW=>by
  have bw:=ag bW1 bW
  have EW:=hE.next bw
  refine(sK W gr gd gm gt gk ge g s l m T _ C b n (wl A) EW.rcp (hT.next bw) h0 (by have:=h1;unfold J2 at this;omega) h2 h3 (hv.next bw).inM b0 b1 (by omega) (by omega) (by omega) (by omega)).mono ?_
  rintro e w' ⟨r,gq,s',m',k1,k2,k3,k4,k5,k6,k7,k8,k9⟩
  obtain⟨va,vl,vc,rfl⟩:=k2.toW.shape
  exact⟨va,vl,vc,s',m',k1,k2.toW.mono k3,EW.kept k9 k4,k5,k6,k7,k8,k9⟩
 have hX:∀ X,X<=A->X<C*18446744073709551616^k->X<=2^n:=fun X x1 x2=>by
  have hB:18446744073709551616^k=2^(64*k):=by rw[Nat.pow_mul]
  have x3:X<2^(b+1+64*k):=by
   rw[Nat.pow_add, <-hB]
   exact Nat.lt_trans x2 (Nat.mul_lt_mul_of_pos_right b1 (fb k))
  have x4:X<2^(a+1):=Nat.lt_of_le_of_lt x1 a1
  rcases Nat.le_total (a+1) (b+1+64*k)with h|h
  ·rw[hn,Nat.min_eq_left h];omega
  ·rw[hn,Nat.min_eq_right h];omega
 have HP2:Hid (∀ W P2 P3 vv s1 m1,aw W gv gr gd gm gt gk ge g s1 l m1 T->s<=s1->s1<=s+(LU n b C:Int)->m<=m1->m1<=max m (l+(dI (wl A):Int))->ah w.heap.size W vv (2^n/C)->Out (·=g) w W->P0+1<P2->P0+1<P3->W.cell? ⟨P0,0,none⟩=some (.pointer (some ⟨gv,0,none⟩))->W.cell? ⟨P0+1,0,none⟩=some (.slice gb (wl C) cb)->W.cell? ⟨P2,0,none⟩=some (.int .i64 (n:Int))->W.cell? ⟨P3,0,none⟩=some vv->
   Calls Tryz.prog 77 #[.slice ga (wl A) ca,.slice gb (wl C) cb,.int .i64 (k:Int),.func (.func 78) #[] #[.pointer (some ⟨P0,0,none⟩),.pointer (some ⟨P0+1,0,none⟩),.pointer (some ⟨P3,0,none⟩),.pointer (some ⟨P2,0,none⟩)]] W fun e w'=>∃ q r,e=.returned (.tuple #[q,r])/\(∃ x y z,q=.slice x y z)/\(∃ x y z,r=.slice x y z)/\de w gv gr gd gm gt gk ge g s l m T A C (J2 n b C P) (dI (wl A)) (.returned (.tuple #[q,r,.int .i64 0])) w'):=fun W P2 P3 vv s1 m1 EW z1 z2 z3 z4 nv oW p2 p3 d0 d1 d2 d3=>by
  have sz:=oW.size
  have l0:=World.block_lt_of_cell? _ _ d0
  have l1:=World.block_lt_of_cell? _ _ d1
  have l2:=World.block_lt_of_cell? _ _ d2
  have l3:=World.block_lt_of_cell? _ _ d3
  have hbr:=h1
  unfold J2 at hbr
  have hTW:=hE.rcp.tb oW hT
  have hcW:=hE.rcp.inC oW hv
  refine(qj W g _ _ A C k 78 Q P #[] _ _ (hE.rcp.inC oW hu) hcW hC (by omega) (by omega) hQ (by omega) hP (by omega) (fun W' o'=>hE.rcp.inC (oW.trans o') hu)
   (BZ W W.heap.size P0 (P0+1) P3 P2 gv gr gd gm gt gk ge g s1 l m1 T _ vv A C b n k P (wl A) (by omega) (by omega) h2 h3 b0 b1 (by omega) (by omega) hX (by omega) (by omega) (by omega) ⟨l0,l1,l3,l2⟩ EW.lts ⟨by omega,by omega,by omega,by omega⟩ hcW (nv.toC (by omega)) hTW (Nat.le_refl _)) ⟨s1,m1,EW,hTW,hcW,nv.toC (by omega),d0,d1,d3,d2,Int.le_refl _,by omega,Int.le_refl _,by omega⟩).mono ?_
  rintro e w' ⟨q,r,gq,gx,k1,k2,k3,⟨k4,k5,k6⟩,⟨s',m',j1,_,_,_,_,_,_,_,j2,j3,j4,j5⟩,k8⟩
  refine⟨q,r,k1,k2.toW.shape,k3.toW.shape,q,r,gq,gx,s',m',rfl,k2,k3,⟨k4,by omega,by omega⟩,j1,by omega,?_,by omega,by omega,oW.trans k8⟩
  unfold J2
  omega
 generalize hna:wl A=na at *
 generalize hnb:wl C=nb at *
 have bl:Below W1.heap.size W1 W1.drew:=(Below.refl _ _).drew
 have i1:min (nb:Int) (Q:Int)=(k:Int):=by omega
 obtain⟨k64,hk64⟩:∃ z,z=64*k:=⟨_,rfl⟩
 obtain⟨a2,ha2⟩:∃ z,z=a+1:=⟨_,rfl⟩
 obtain⟨b2,hb2⟩:∃ z,z=b+1:=⟨_,rfl⟩
 obtain⟨bk,hbk⟩:∃ z,z=b+1+64*k:=⟨_,rfl⟩
 rw[<-ha2]at CA
 rw[<-hb2]at CB
 have i2:64*(k:Int)=(k64:Int):=by omega
 have i3:IntKind.i64.wrap (k64:Int)=(k64:Int):=by rw[IntKind.wrap_i64];omega
 have i4:(b2:Int)+(k64:Int)=(bk:Int):=by omega
 have i5:IntKind.i64.wrap (bk:Int)=(bk:Int):=by rw[IntKind.wrap_i64];omega
 have i6:min (a2:Int) (bk:Int)=(n:Int):=by omega
 have X0:=hide (And.intro hk (And.intro hn (And.intro hk64 (And.intro ha2 (And.intro hb2 hbk)))))
 have HQ:=hide hQ
 have HP:=hide hP
 have HNA:=hide hna
 have HNB:=hide hnb
 clear hk hn hk64 ha2 hb2 hbk hQ hP hna hnb
 generalize de w gv gr gd gm gt gk ge g s l m T A C (J2 n b C P) (dI na)=SA at *
 suffices H:Calls Tryz.prog 43 #[.pointer (some ⟨gv,0,none⟩),.slice ga na ca,.slice gb nb cb] w (fun e w'=>∃ v,e=.returned v/\SA (.returned v) w') from H.mono (fun e w' ⟨v,he,h⟩=>he▸h)
 go_enter Tryz.func43,Tryz.ntmps43
 go_wp2_with fail
 (try simp only[List.append_eq,List.cons_append,List.nil_append])
 go_region_held3 (fun w'=>w'.cell? ⟨P0+1,0,none⟩=some (.slice gb nb cb)) (first|(exact(ae HC _ bl).2.1)|go_keep) (first
  |(with_reducible refine(ae CQ _ bl).mono ?_;rintro e w2 ⟨rfl,bl⟩)
  |fail)
 clear CQ
 have bA:Below W1.heap.size W1 (w2.alloc (.cells #[.int .i64 0] 3)).drew:=(bl.alloc bl.size _).drew
 have bN:Below W1.heap.size W1 (w2.alloc (.cells #[.int .i64 (n:Int)] 3)).drew:=(bl.alloc bl.size _).drew
 have lP1:P0+1<w2.heap.size:=Nat.lt_of_lt_of_le lB bl.size
 have bl:Below W1.heap.size W1 w2.drew:=bl.drew
 go_wp2_with fail
 (try simp only[List.append_eq,List.cons_append,List.nil_append])
 go_region_held3 (fun w'=>w'.cell? ⟨P0+1,0,none⟩=some (.slice gb nb cb)) (first|(exact(ae HC _ bl).2.1)|(exact(ae HC _ bA).2.1)|(exact(ae HC _ bN).2.1)|go_keep) (first
  |(with_reducible refine(ae CA _ bl).mono ?_;rintro e w3 ⟨rfl,hw3⟩;subst hw3)
  |(with_reducible refine(ae CB _ bl).mono ?_;rintro e w3 ⟨rfl,hw3⟩;subst hw3)
  |(with_reducible refine(ae CA _ bA).mono ?_;rintro e w3 ⟨rfl,hw3⟩;subst hw3)
  |(with_reducible refine(ae CB _ bA).mono ?_;rintro e w3 ⟨rfl,hw3⟩;subst hw3)
  |fail)
 all_goals
  have cN:(w2.alloc (.cells #[.int .i64 (n:Int)] 3)).drew.cell? ⟨w2.heap.size,0,none⟩=some (.int .i64 (n:Int)):=cell_of_row _ w2.heap.size 0 _ _ (0,0) (heap_alloc_new w2 _)
  obtain⟨W3,hW3⟩:∃ W3,(w2.alloc (.cells #[.int .i64 (n:Int)] 3)).drew=W3:=⟨_,rfl⟩
  have s3:W3.heap.size=w2.heap.size+1:=by rw[<-hW3];simp
  rw[hW3]at bN cN ⊢
  obtain⟨P2,hP2⟩:∃ P2,w2.heap.size=P2:=⟨_,rfl⟩
  rw[hP2]at cN
  have HS3:=hide s3
  have HN3:Hid (∀ W,Below W3.heap.size W3 W->W.cell? ⟨P0,0,none⟩=some (.pointer (some ⟨gv,0,none⟩))/\W.cell? ⟨P0+1,0,none⟩=some (.slice gb nb cb)/\W.cell? ⟨gv,0,none⟩=some (.pointer (some ⟨gr,0,none⟩))/\W.cell? ⟨P2,0,none⟩=some (.int .i64 (n:Int))):=fun W bW=>by
   obtain⟨f0,f1,f2⟩:=ae HC _ (ag bN bW)
   exact⟨f0,f1,f2,(bW.cell (p:=⟨P2,0,none⟩) (by rw[s3];show P2<_;omega)).trans cN⟩
  have CR3:=hide (fun W (bW:Below W3.heap.size W3 W)=>ae CR W (ag bN bW))
  have o13:Out (·=g) w W3:=Out.of_below (ag bW1 bN)
  have hP2g:g<W3.heap.size:=Nat.lt_of_lt_of_le lts.2.2.2.2.2.2.2 o13.size
  have hP2P:P0+1<P2:=by omega
  have HK:Hid (∀ W,Out (fun j=>j=g\/W3.heap.size<=j) W3 W->W.cell? ⟨P0,0,none⟩=some (.pointer (some ⟨gv,0,none⟩))/\W.cell? ⟨P0+1,0,none⟩=some (.slice gb nb cb)/\W.cell? ⟨gv,0,none⟩=some (.pointer (some ⟨gr,0,none⟩))/\W.cell? ⟨P2,0,none⟩=some (.int .i64 (n:Int))):=fun W oW=>by
   obtain⟨f0,f1,f2,f3⟩:=ae HN3 _ (Below.refl _ _)
   have q0:=World.block_lt_of_cell? _ _ f0
   have q1:=World.block_lt_of_cell? _ _ f1
   have q2:=World.block_lt_of_cell? _ _ f2
   have q3:=World.block_lt_of_cell? _ _ f3
   have r0:P0≠g:=by omega
   have r1:P0+1≠g:=by omega
   have r2:P2≠g:=by omega
   have r3:gv≠g:=hE.nm
   exact⟨oW.cell f0 (fun h=>by rcases h with h|h;exact r0 h;exact absurd q0 (Nat.not_lt.2 h)),oW.cell f1 (fun h=>by rcases h with h|h;exact r1 h;exact absurd q1 (Nat.not_lt.2 h)),oW.cell f2 (fun h=>by rcases h with h|h;exact r3 h;exact absurd q2 (Nat.not_lt.2 h)),oW.cell f3 (fun h=>by rcases h with h|h;exact r2 h;exact absurd q3 (Nat.not_lt.2 h))⟩
  have HA:Hid (∀ W ob,Out (fun j=>j=g\/W3.heap.size<=j) W3 W->Out (fun j=>j=g\/W3.heap.size<=j) W3 (W.alloc ob)):=fun W ob oW=>oW.next ((Below.refl _ _).alloc (Nat.le_refl _) _)
  have HT3:Hid (∀ W r,Out (fun j=>j=g\/W3.heap.size<=j) W3 W->Out (fun j=>j=g\/W3.heap.size<=j) W3 (W.setCell ⟨W3.heap.size,0,none⟩ r)):=fun W r oW=>oW.trans ((Out.refl _ _).set (g:=W3.heap.size) (i:=0) (Or.inr (Nat.le_refl _)) r)
  have HO1:Hid (∀ W,Out (·=g) W3.drew W->Out (fun j=>j=g\/W3.heap.size<=j) W3 W):=fun W o=>(Out.of_below ((Below.refl _ W3).drew)).trans (o.mono fun _ e=>Or.inl e)
  have HO2:Hid (∀ W,Out (·=g) (W3.alloc (.cells #[.slice none 0 0] 29)).drew W->Out (fun j=>j=g\/W3.heap.size<=j) W3 W/\W.cell? ⟨W3.heap.size,0,none⟩=some (.slice none 0 0)/\W.frozen? ⟨W3.heap.size,0,none⟩=false/\Hid (Ny W W3.heap.size (.slice none 0 0) 29)):=fun W o=>by
   have hn:=heap_alloc_new W3 (.cells #[.slice none 0 0] 29)
   have hn2:(W3.alloc (.cells #[.slice none 0 0] 29)).drew.heap[W3.heap.size]?=some (.cells #[.slice none 0 0] 29 (0,0)):=hn
   have hn3:=(o.block W3.heap.size (by simp) (show ¬W3.heap.size=g by omega)).trans hn2
   exact⟨(Out.of_below (((Below.refl _ W3).alloc (Nat.le_refl _) _).drew)).trans (o.mono fun _ e=>Or.inl e),cell_of_row _ W3.heap.size 0 _ _ (0,0) hn3,frozen_of_row W W3.heap.size 0 _ _ hn3,hn3⟩
  clear CA CB bA bl i1 i2 i3 i4 i5 i6 hW3 s3 cN CR
  have bl:Below W3.heap.size W3 W3.drew:=(Below.refl _ _).drew
  have bA:Below W3.heap.size W3 (W3.alloc (.cells #[.slice none 0 0] 29)).drew:=((Below.refl _ W3).alloc (Nat.le_refl _) _).drew
  go_wp2_with fail
  (try simp only[List.append_eq,List.cons_append,List.nil_append])
  go_region_held3 (fun w'=>w'.cell? ⟨P0,0,none⟩=some (.pointer (some ⟨gv,0,none⟩))/\w'.cell? ⟨P0+1,0,none⟩=some (.slice gb nb cb)/\w'.cell? ⟨gv,0,none⟩=some (.pointer (some ⟨gr,0,none⟩))/\w'.cell? ⟨P2,0,none⟩=some (.int .i64 (n:Int))) (first|(exact ae HN3 _ bl)|(exact ae HN3 _ bA)|(exact ae HK _ o4)|(exact ae HK _ (ae HA _ _ o4))|(exact ae HK _ (ae HT3 _ _ o4))|go_keep) (first
   |(with_reducible refine(ae CR3 _ bl).mono ?_;rintro e w4 ⟨va,vl,vc,s4,m4,rfl,n4,E4,y1,y2,y3,y4,o4⟩;have o4:=ae HO1 _ o4)
   |(with_reducible refine(ae CR3 _ bA).mono ?_;rintro e w4 ⟨va,vl,vc,s4,m4,rfl,n4,E4,y1,y2,y3,y4,o4⟩;obtain⟨o4,c4,f4,on4⟩:=ae HO2 _ o4)
   |fail)
  all_goals
   have HG:Hid (∀ W5 P3,aw W5 gv gr gd gm gt gk ge g s4 l m4 T->ah w.heap.size W5 (.slice va vl vc) (2^n/C)->Out (fun j=>j=g\/W3.heap.size<=j) W3 W5->W3.heap.size<=P3->W5.cell? ⟨P3,0,none⟩=some (.slice va vl vc)->W5.cell? ⟨P0+1,0,none⟩=some (.slice gb nb cb)/\∀ W,Below W5.heap.size W5 W->Calls Tryz.prog 77 #[.slice ga na ca,.slice gb nb cb,.int .i64 (k:Int),.func (.func 78) #[] #[.pointer (some ⟨P0,0,none⟩),.pointer (some ⟨P0+1,0,none⟩),.pointer (some ⟨P3,0,none⟩),.pointer (some ⟨P2,0,none⟩)]] W fun e w'=>∃ q r,e=.returned (.tuple #[q,r])/\(∃ x y z,q=.slice x y z)/\(∃ x y z,r=.slice x y z)/\SA (.returned (.tuple #[q,r,.int .i64 0])) w'):=fun W5 P3 E5 n5 o5 hP3 c5=>by
    obtain⟨f0,f1,f2,f3⟩:=ae HK _ o5
    refine⟨f1,fun W bW=>?_⟩
    have ow5:Out (·=g) w W5:=Out.fresh o13 o5 (fun i h=>by rcases h with h|h;exact Or.inl h;exact Or.inr (Nat.le_trans o13.size h))
    have sz3:=ae HS3
    exact ae HP2 W P2 P3 _ s4 m4 (E5.next bW) y1 y2 y3 y4 (n5.next bW) (ow5.next bW) hP2P (by omega) ((bW.cell (p:=⟨P0,0,none⟩) (World.block_lt_of_cell? _ _ f0)).trans f0) ((bW.cell (p:=⟨P0+1,0,none⟩) (World.block_lt_of_cell? _ _ f1)).trans f1) ((bW.cell (p:=⟨P2,0,none⟩) (World.block_lt_of_cell? _ _ f3)).trans f3) ((bW.cell (p:=⟨P3,0,none⟩) (World.block_lt_of_cell? _ _ c5)).trans c5)
   have hwW3:=o13.size
   have hl4:=lts
   first
    |(have o45:Out (·=W3.heap.size) w4 (w4.setCell ⟨W3.heap.size,0,none⟩ (.slice va vl vc)):=(Out.refl (fun j=>j=W3.heap.size) w4).set (g:=W3.heap.size) (i:=0) rfl _
      have c5:=((ae on4).set (.slice va vl vc)).cell
      have E5:aw (w4.setCell ⟨W3.heap.size,0,none⟩ (.slice va vl vc)) gv gr gd gm gt gk ge g s4 l m4 T:=⟨o45.cell E4.ptr (fun(e:gv=W3.heap.size)=>by omega),E4.rcp.out o45 (fun(e:gr=W3.heap.size)=>by omega) (fun(e:gd=W3.heap.size)=>by omega) (fun(e:gm=W3.heap.size)=>by omega) (fun(e:gt=W3.heap.size)=>by omega) (fun(e:gk=W3.heap.size)=>by omega) (fun(e:ge=W3.heap.size)=>by omega) (fun(e:g=W3.heap.size)=>by omega),E4.nm⟩
      have n5:=(o45.newW n4 (fun k (e:k=W3.heap.size)=>by rw[e];simp)).mono (B':=w.heap.size) (by simp;omega)
      have G5:=ae HG _ _ E5 n5 (ae HT3 _ _ o4) (Nat.le_refl _) c5
      obtain⟨W5,hW5⟩:∃ W5,w4.setCell ⟨W3.heap.size,0,none⟩ (.slice va vl vc)=W5:=⟨_,rfl⟩
      obtain⟨P3,hP3⟩:∃ P3,W3.heap.size=P3:=⟨_,rfl⟩
      rw[hW5,hP3]at G5
      rw[hW5,hP3]
      have HG5:=hide G5.2
      have c9:=G5.1
      clear hW5 hP3 G5 E5 n5 c5 o45 c4 f4 on4)
    |(have E5:=E4.next ((Below.refl _ w4).alloc (Nat.le_refl _) (.cells #[.slice va vl vc] 29))
      have n5:=(n4.next ((Below.refl _ w4).alloc (Nat.le_refl _) (.cells #[.slice va vl vc] 29))).mono (B':=w.heap.size) (by simp;omega)
      have c5:(w4.alloc (.cells #[.slice va vl vc] 29)).cell? ⟨w4.heap.size,0,none⟩=some (.slice va vl vc):=cell_of_row _ w4.heap.size 0 _ _ (0,0) (heap_alloc_new w4 _)
      have G5:=ae HG _ _ E5 n5 (ae HA _ _ o4) o4.size c5
      obtain⟨W5,hW5⟩:∃ W5,w4.alloc (.cells #[.slice va vl vc] 29)=W5:=⟨_,rfl⟩
      obtain⟨P3,hP3⟩:∃ P3,w4.heap.size=P3:=⟨_,rfl⟩
      rw[hW5,hP3]at G5
      rw[hW5,hP3]
      have HG5:=hide G5.2
      have c9:=G5.1
      clear hW5 hP3 G5 E5 n5 c5)
   clear HG HA HT3 HO1 HO2 HK HN3 CR3 n4 E4 y1 y2 y3 y4 o4 HP2 bl bA
   go_wp2_with fail
   with_reducible refine(ae HG5 _ (Below.refl _ _)).mono ?_
   rintro e w6 ⟨q,r,rfl,⟨_,_,_,rfl⟩,⟨_,_,_,rfl⟩,h⟩
   have HX:=hide h
   clear HG5 h
   go_wp2
   go_ret3
   exact⟨_,rfl,ae HX⟩
end Go.Proofs.YtpdpnomocbehkaaGreatDoor
/- New,DivMod,Exact and Divides of the landed package div. -/
namespace Go.Proofs.YtpdpnomocbehkaaGreatDoor
open Go.RowKit
set_option maxHeartbeats 1600000 in
theorem gh:fw:=by
 intro T w
 have CC:=hide (fun w=>EP T w)
 unfold Tab.val at CC ⊢
 go_enter Tryz.func10,Tryz.ntmps10
 go_wp2_with fail
 refine(ae CC _).mono ?_
 rintro e w1 ⟨gr,gd,gm,gt,gk,ge,g,rfl,E1,⟨hgr,hgd,hgm,hgt,hgk,hge,hg⟩,b1⟩
 have hg':w.heap.size<=g:=Nat.le_trans (by simp) hg
 have hge':w.heap.size<=ge:=Nat.le_trans (by simp) hge
 have hgk':w.heap.size<=gk:=Nat.le_trans (by simp) hgk
 have hgt':w.heap.size<=gt:=Nat.le_trans (by simp) hgt
 have hgm':w.heap.size<=gm:=Nat.le_trans (by simp) hgm
 have hgd':w.heap.size<=gd:=Nat.le_trans (by simp) hgd
 have hgr':w.heap.size<=gr:=Nat.le_trans (by simp) hgr
 have b0:=hide (ag ((Below.refl w.heap.size w).alloc (Nat.le_refl _) _) b1)
 have tl:=E1.met.lt
 have HE:=hide E1
 clear CC b1 hg E1 hge hgk hgt hgm hgd hgr
 go_wp2
 go_ret
 refine⟨w1.heap.size,gr,gd,gm,gt,gk,ge,g,rfl,⟨?_,(ae HE).next ((Below.refl _ _).alloc (Nat.le_refl _) _),by omega⟩,⟨(ae b0).size,hgr',hgd',hgm',hgt',hgk',hge',hg'⟩,(ae b0).alloc (ae b0).size _⟩
 exact cell_of_row _ w1.heap.size 0 _ _ (0,0) (heap_alloc_new w1 _)
theorem Gg{A C b n k Q P:Nat}(hC:0<C)(hQ:Q=wl (A/C))(hL4:4<=wl C)(hQ4:4<=Q)(hk:k=min (wl C) Q)(hn:n<=b+1+64*k)(hb:b+1<=64*wl C)(hP:P=cd Q k):
  J2 n b C P<=64*(wl A*wl A)+64:=by
 have hqle:=Bd (A:=A) hC
 have hnn:¬wl A<wl C:=fun h=>by have:=kO h;omega
 rw[<-hQ]at hqle
 obtain⟨L,hL⟩:∃ L,L=wl C:=⟨_,rfl⟩
 obtain⟨S,hS⟩:∃ S,S=L+Q-1:=⟨_,rfl⟩
 have hSA:S<=wl A:=by omega
 have hSS:S*S<=wl A*wl A:=Nat.mul_le_mul hSA hSA
 have wn:wl (2^n)<=L+k+1:=by
  have:=dN (n:=2^n) (b:=n+1) (by rw[Nat.pow_succ];have:=Nat.two_pow_pos n;omega)
  omega
 have g1:jL (2^n) C<=(k+2)*(L+1):=by
  unfold jL
  rw[<-hL]
  split
  ·omega
  ·exact Nat.mul_le_mul_right _ (by omega)
 have g2:nc (n-(b+1))<=8*(k*k)+100*k+4:=by
  have h1:=Ik (n-(b+1))
  have h2:n-(b+1)<=64*k:=by omega
  have h3:(n-(b+1))*(n-(b+1))<=(64*k)*(64*k):=Nat.mul_le_mul h2 h2
  have h4:(64*k)*(64*k)=4096*(k*k):=by grind
  omega
 have g3:(n-(b+1)+65)/64*L<=(k+1)*L:=Nat.mul_le_mul_right _ (by omega)
 have g4:qT n b C<=16*((k+1)*L)+8*((k+1)*(k+1)):=by
  unfold qT
  rw[<-hL]
  have h1:(n-b+64)/64<=k+1:=by omega
  have h2:(n-b+64)/64*L<=(k+1)*L:=Nat.mul_le_mul_right _ h1
  have h3:(n-b+64)/64*((n-b+64)/64)<=(k+1)*(k+1):=Nat.mul_le_mul h1 h1
  omega
 have hcd:=(yX (Q:=Q) (k:=k) (by omega)).2
 rw[<-hP]at hcd
 unfold J2 LU
 rw[<-hL]
 have e1:(k+2)*(L+1)=k*L+k+2*L+2:=by grind
 have e2:(k+1)*L=k*L+L:=by grind
 have e3:(k+1)*(k+1)=k*k+2*k+1:=by grind
 have m1:P*qT n b C<=P*(16*((k+1)*L)+8*((k+1)*(k+1))):=Nat.mul_le_mul_left P g4
 rcases Nat.le_total Q L with hQL|hQL
 ·have hkQ:k=Q:=by omega
  have hP1:P=1:=by
   rw[hP,hkQ]
   unfold cd
   rw[show Q+Q-1=Q*1+(Q-1) by omega,Nat.mul_add_div (by omega),Nat.div_eq_of_lt (by omega)]
  have m1':P*qT n b C<=16*((k+1)*L)+8*((k+1)*(k+1)):=by rw[hP1,Nat.one_mul];exact g4
  clear m1 hcd hP hP1 g4
  generalize P*qT n b C=X at *
  generalize (n-(b+1)+65)/64*L=Y at *
  generalize nc (n-(b+1))=Z at *
  generalize jL (2^n) C=V at *
  rw[e1]at g1
  rw[e2]at g3 m1'
  rw[e3]at m1'
  subst hkQ
  have e4:S*S=L*L+2*(k*L)+k*k+1-2*L-2*k:=by
   rw[hS]
   have:L+k-1+1=L+k:=by omega
   obtain⟨z,hz⟩:∃ z,L+k-1=z:=⟨_,rfl⟩
   have hz2:L+k=z+1:=by omega
   have h9:(L+k)*(L+k)=(z+1)*(z+1):=by rw[hz2]
   have h10:(L+k)*(L+k)=L*L+2*(k*L)+k*k:=by grind
   have h11:(z+1)*(z+1)=z*z+2*z+1:=by grind
   rw[hz]
   omega
  have f1:4*L<=L*L:=Nat.mul_le_mul_right L (by omega)
  have f2:4*k<=k*k:=Nat.mul_le_mul_right k hQ4
  have f3:4*L<=k*L:=Nat.mul_le_mul_right L hQ4
  have f4:4*k<=k*L:=by have:=Nat.mul_le_mul_left k (show 4<=L by omega);omega
  omega
 ·have hkL:k=L:=by omega
  subst hkL
  have m2:P*(16*((k+1)*k)+8*((k+1)*(k+1)))<=(P*k)*(24*k+36):=by
   have h1:16*((k+1)*k)+8*((k+1)*(k+1))<=k*(24*k+36):=by
    have q1:(k+1)*k=k*k+k:=by grind
    have q2:k*(24*k+36)=24*(k*k)+36*k:=by grind
    omega
   have:=Nat.mul_le_mul_left P h1
   rw[<-Nat.mul_assoc P k]at this
   exact this
  have m3:(P*k)*(24*k+36)<=S*(24*k+36):=Nat.mul_le_mul_right _ (by omega)
  have e5:S*(24*k+36)=24*(S*k)+36*S:=by grind
  have f1:2*k<=S+1:=by omega
  have f2:(2*k)*S<=(S+1)*S:=Nat.mul_le_mul_right S f1
  have f3:(2*k)*(2*k)<=(S+1)*(S+1):=Nat.mul_le_mul f1 f1
  have e6:(2*k)*S=2*(S*k):=by grind
  have e7:(S+1)*S=S*S+S:=by grind
  have e8:(2*k)*(2*k)=4*(k*k):=by grind
  have e9:(S+1)*(S+1)=S*S+2*S+1:=by grind
  have f4:7*S<=S*S:=Nat.mul_le_mul_right S (by omega)
  have m4:=Nat.le_trans m1 (Nat.le_trans m2 m3)
  clear m1 m2 m3 hcd hP g4
  generalize P*qT n b C=X at *
  generalize (n-(b+1)+65)/64*k=Y at *
  generalize nc (n-(b+1))=Z at *
  generalize jL (2^n) C=V at *
  rw[e1]at g1
  rw[e2]at g3
  rw[e5]at m4
  omega
theorem KA(w:World)(gv:Nat)(u v:Value)(A:Nat)(hu:aX w u A)(hv:aX w v 0):
  Calls Tryz.prog 12 #[.pointer (some ⟨gv,0,none⟩),u,v] w fun e w'=>e=.returned (.tuple #[.slice none 0 0,.slice none 0 0,.int .i64 2])/\w'=w:=by
 obtain⟨a,ia,CA⟩:=bQ hu
 obtain⟨d,jd,CD⟩:=bQ hv
 have CA:=hide CA
 have CD:=hide CD
 obtain⟨ga,_,_,ca,rfl,_,_⟩:=ia.is
 obtain⟨gb,_,_,cb,rfl,_,_⟩:=jd.is
 obtain⟨gu,lu,cu,rfl⟩:=hu.inW.is
 obtain⟨gw,lw,cw,rfl⟩:=hv.inW.is
 rw[aZ]at CD
 generalize wl A=na at *
 clear hu hv ia jd
 go_enter Tryz.func12,Tryz.ntmps12
 go_wp2_with fail
 with_reducible refine(ae CA).mono ?_
 rintro e w1 ⟨rfl,hw⟩
 obtain rfl:=hw.symm
 clear hw CA
 go_wp2_with fail
 with_reducible refine(ae CD).mono ?_
 rintro e w1 ⟨rfl,hw⟩
 obtain rfl:=hw.symm
 clear hw CD
 go_wp2
 go_ret3
 exact⟨rfl,rfl⟩
set_option maxRecDepth 100000 in
set_option maxHeartbeats 3200000 in
theorem Kz(w:World)(gv gr gd gm gt gk ge g:Nat)(s l m:Int)(T:Tab)(u v:Value)(A C:Nat)
  (hE:aw w gv gr gd gm gt gk ge g s l m T) (h0:0<=s) (h1:s<=1152921504606846976) (h2:0<=l) (h3:l<=1000) (hu:aX w u A) (hv:aX w v C) (hC:0<C)
  (hs:(wl C:Int)<T.clamp.row.getD 3 0\/(wl (A/C):Int)<T.clamp.row.getD 3 0):
  Calls Tryz.prog 12 #[.pointer (some ⟨gv,0,none⟩),u,v] w (de w gv gr gd gm gt gk ge g s l m T A C (jL A C) 0):=by
 obtain⟨a,ia,CA⟩:=bQ hu
 obtain⟨d,jd,CD⟩:=bQ hv
 have CA:=hide CA
 have CD:=hide CD
 have CS:=hide (en w gv gr gd gm gt gk ge g s l m T a d A C _ true hE ia jd hC rfl (by rw[eq_comm,decide_eq_true_iff];exact hs))
 have CL:Hid (∀ W,Below w.heap.size w W->Calls Tryz.prog 24 #[.pointer (some ⟨gd,0,none⟩),a,d] W fun e w'=>∃ q r,e=.returned (.tuple #[q,r,.int .i64 0])/\(∃ x y z,q=.slice x y z)/\(∃ x y z,r=.slice x y z)/\de w gv gr gd gm gt gk ge g s l m T A C (jL A C) 0 (.returned (.tuple #[q,r,.int .i64 0])) w'):=fun W bw=>by
  refine(iT W gr gd gm gt gk ge g s l m T _ _ A C (hE.next bw).rcp h0 h1 h2 h3 (ia.next bw).inM (jd.next bw).inM hC).mono ?_
  rintro e w' ⟨q,r,gq,gx,k1,k2,k3,⟨k4,k5,k6⟩,k7,k8⟩
  have sz:=bw.size
  exact⟨q,r,k1,k2.toW.shape,k3.toW.shape,q,r,gq,gx,_,m,rfl,k2,k3,⟨k4,by omega,by omega⟩,(hE.next bw).kept k8 k7,by omega,Int.le_refl _,Int.le_refl _,by omega,(Out.of_below bw).trans k8⟩
 have HC:Hid (∀ W,Below w.heap.size w W->W.cell? ⟨gv,0,none⟩=some (.pointer (some ⟨gr,0,none⟩))/\W.cell? ⟨gr,0,none⟩=some (.pointer (some ⟨gd,0,none⟩))):=fun W bW=>by
  obtain⟨d0,d1,_⟩:=(hE.next bW).way
  exact⟨d0,d1⟩
 have hnb:¬(wl C:Int)=0:=by have:=ay (n:=C);omega
 obtain⟨ga,_,_,ca,rfl, -, -⟩:=ia.is
 obtain⟨gb,_,_,cb,rfl, -, -⟩:=jd.is
 obtain⟨gu,lu,cu,rfl⟩:=hu.inW.is
 obtain⟨gw,lw,cw,rfl⟩:=hv.inW.is
 generalize de w gv gr gd gm gt gk ge g s l m T A C (jL A C) 0=SA at *
 generalize wl A=na at *
 generalize wl C=nb at *
 clear hu hv ia jd hE h0 h1 h2 h3 hC hs
 suffices H:Calls Tryz.prog 12 #[.pointer (some ⟨gv,0,none⟩),.slice gu lu cu,.slice gw lw cw] w (fun e w'=>∃ v,e=.returned v/\SA (.returned v) w') from H.mono (fun e w' ⟨v,he,h⟩=>he▸h)
 go_enter Tryz.func12,Tryz.ntmps12
 go_wp2_with fail
 with_reducible refine(ae CA).mono ?_
 rintro e w1 ⟨rfl,hw⟩
 obtain rfl:=hw.symm
 clear hw CA
 go_wp2_with fail
 with_reducible refine(ae CD).mono ?_
 rintro e w1 ⟨rfl,hw⟩
 obtain rfl:=hw.symm
 clear hw CD
 go_wp2_with fail
 with_reducible refine(ae CS).mono ?_
 rintro e w1 ⟨rfl,b1⟩
 obtain⟨e0,e1⟩:=ae HC _ b1
 clear CS HC
 go_wp2_with fail
 with_reducible refine(ae CL _ b1).mono ?_
 rintro e w2 ⟨q,r,rfl,⟨_,_,_,rfl⟩,⟨_,_,_,rfl⟩,h⟩
 have HX:=hide h
 clear CL h
 go_wp2
 go_ret3
 exact⟨_,rfl,ae HX⟩
set_option maxRecDepth 100000 in
set_option maxHeartbeats 3200000 in
theorem GN(w:World)(gv gr gd gm gt gk ge g:Nat)(s l m:Int)(T:Tab)(u v:Value)(A C:Nat)(rc:Bool)(SA:Ending->World->Prop)
  (hE:aw w gv gr gd gm gt gk ge g s l m T) (hu:aX w u A) (hv:aX w v C) (hC:0<C)
  (hs1:¬(wl C:Int)<T.clamp.row.getD 3 0) (hs2:¬(wl (A/C):Int)<T.clamp.row.getD 3 0) (hrc:rc=decide (T.clamp.row.getD 4 0<=(wl C:Int)))
  (H:∀ W a d,Below w.heap.size w W->d6 W a A->d6 W d C->Calls Tryz.prog (if rc then 43 else 23) #[.pointer (some ⟨gv,0,none⟩),a,d] W fun e w'=>∃ q r,e=.returned (.tuple #[q,r,.int .i64 0])/\(∃ x y z,q=.slice x y z)/\(∃ x y z,r=.slice x y z)/\SA (.returned (.tuple #[q,r,.int .i64 0])) w'):
  Calls Tryz.prog 12 #[.pointer (some ⟨gv,0,none⟩),u,v] w SA:=by
 obtain⟨a,ia,CA⟩:=bQ hu
 obtain⟨d,jd,CD⟩:=bQ hv
 have CA:=hide CA
 have CD:=hide CD
 have CS:=hide (en w gv gr gd gm gt gk ge g s l m T a d A C _ false hE ia jd hC rfl (by rw[eq_comm,decide_eq_false_iff_not];omega))
 have HC:Hid (∀ W,Below w.heap.size w W->W.cell? ⟨gv,0,none⟩=some (.pointer (some ⟨gr,0,none⟩))/\W.cell? ⟨gr,0,none⟩=some (.pointer (some ⟨gd,0,none⟩))/\W.cell? ⟨gd,0,none⟩=some (.pointer (some ⟨gm,0,none⟩))/\W.cell? ⟨gm,0,none⟩=some (.pointer (some ⟨gt,0,none⟩))/\W.cell? ⟨gt,0,none⟩=some (.pointer (some ⟨gk,0,none⟩))/\W.cell? ⟨gk,0,none⟩=some (.pointer (some ⟨ge,0,none⟩))/\W.cell? ⟨ge,0,none⟩=some (.pointer (some ⟨g,0,none⟩))/\W.cell? ⟨g,7,none⟩=some (.int .i64 (T.clamp.row.getD 4 0))):=fun W bW=>by
  obtain⟨e0,e1,e2,e3,e4,e5,e6⟩:=(hE.next bW).way
  exact⟨e0,e1,e2,e3,e4,e5,e6,(hE.next bW).rcp.div.mul.toom.kara.tab 4 (by decide)⟩
 have CH:=hide (fun W (bW:Below w.heap.size w W)=>H W a d bW (ia.next bW) (jd.next bW))
 have hnb:¬(wl C:Int)=0:=by have:=ay (n:=C);omega
 obtain⟨ga,_,_,ca,rfl, -, -⟩:=ia.is
 obtain⟨gb,_,_,cb,rfl, -, -⟩:=jd.is
 obtain⟨gu,lu,cu,rfl⟩:=hu.inW.is
 obtain⟨gw,lw,cw,rfl⟩:=hv.inW.is
 generalize T.clamp.row.getD 4 0=t at *
 generalize wl A=na at *
 generalize wl C=nb at *
 clear hu hv ia jd hE hC hs1 hs2 H
 suffices H:Calls Tryz.prog 12 #[.pointer (some ⟨gv,0,none⟩),.slice gu lu cu,.slice gw lw cw] w (fun e w'=>∃ v,e=.returned v/\SA (.returned v) w') from H.mono (fun e w' ⟨v,he,h⟩=>he▸h)
 rcases Bool.eq_false_or_eq_true rc with hr|hr
 ·subst hr
  have hle:t<=(nb:Int):=by simpa using hrc.symm
  rw[if_pos rfl]at CH
  clear hrc
  go_enter Tryz.func12,Tryz.ntmps12
  go_wp2_with fail
  with_reducible refine(ae CA).mono ?_
  rintro e w1 ⟨rfl,hw⟩
  obtain rfl:=hw.symm
  clear hw CA
  go_wp2_with fail
  with_reducible refine(ae CD).mono ?_
  rintro e w1 ⟨rfl,hw⟩
  obtain rfl:=hw.symm
  clear hw CD
  go_wp2_with fail
  with_reducible refine(ae CS).mono ?_
  rintro e w1 ⟨rfl,b1⟩
  obtain⟨e0,e1,e2,e3,e4,e5,e6,e7⟩:=ae HC _ b1
  clear CS HC
  go_wp2_with fail
  with_reducible refine(ae CH _ b1).mono ?_
  rintro e w2 ⟨q,r,rfl,⟨_,_,_,rfl⟩,⟨_,_,_,rfl⟩,h⟩
  have HX:=hide h
  clear CH h
  go_wp2
  go_ret3
  exact⟨_,rfl,ae HX⟩
 ·subst hr
  have hle:¬t<=(nb:Int):=by simpa using hrc.symm
  rw[if_neg (by decide)]at CH
  clear hrc
  go_enter Tryz.func12,Tryz.ntmps12
  go_wp2_with fail
  with_reducible refine(ae CA).mono ?_
  rintro e w1 ⟨rfl,hw⟩
  obtain rfl:=hw.symm
  clear hw CA
  go_wp2_with fail
  with_reducible refine(ae CD).mono ?_
  rintro e w1 ⟨rfl,hw⟩
  obtain rfl:=hw.symm
  clear hw CD
  go_wp2_with fail
  with_reducible refine(ae CS).mono ?_
  rintro e w1 ⟨rfl,b1⟩
  obtain⟨e0,e1,e2,e3,e4,e5,e6,e7⟩:=ae HC _ b1
  clear CS HC
  go_wp2_with fail
  with_reducible refine(ae CH _ b1).mono ?_
  rintro e w2 ⟨q,r,rfl,⟨_,_,_,rfl⟩,⟨_,_,_,rfl⟩,h⟩
  have HX:=hide h
  clear CH h
  go_wp2
  go_ret3
  exact⟨_,rfl,ae HX⟩
theorem jJ(w:World)(gv gr gd gm gt gk ge g:Nat)(s l m:Int)(T:Tab)(u v:Value)(A C:Nat)
  (hE:aw w gv gr gd gm gt gk ge g s l m T) (hT:TB w) (h0:0<=s) (h1:s<=1143914000000000000) (h2:0<=l) (h3:l<=900) (hu:aX w u A) (hv:aX w v C) (hC:0<C) (hwA:wl A<=16000):
  Calls Tryz.prog 12 #[.pointer (some ⟨gv,0,none⟩),u,v] w (de w gv gr gd gm gt gk ge g s l m T A C (64*(wl A*wl A)+64) (4*Lib.bitLen (wl A)+8)):=by
 have ht:=uU T
 have wC:=hv.wlM
 have wC0:0<wl C:=by have:=ay (n:=C);omega
 have hAA:wl A*wl A<=16000*16000:=Nat.mul_le_mul hwA hwA
 have hup:∀ K M e w',K<=64*(wl A*wl A)+64->M<=4*Lib.bitLen (wl A)+8->de w gv gr gd gm gt gk ge g s l m T A C K M e w'->de w gv gr gd gm gt gk ge g s l m T A C (64*(wl A*wl A)+64) (4*Lib.bitLen (wl A)+8) e w':=by
  rintro K M e w' hK hM ⟨q,r,gq,gx,s',m',k1,k2,k3,k4,k5,k6,k7,k8,k9,k0⟩
  exact⟨q,r,gq,gx,s',m',k1,k2,k3,k4,k5,k6,by omega,k8,by omega,k0⟩
 have hfm:∀ W K M e w',Below w.heap.size w W->de W gv gr gd gm gt gk ge g s l m T A C K M e w'->K<=64*(wl A*wl A)+64->M<=4*Lib.bitLen (wl A)+8->∃ q r,e=.returned (.tuple #[q,r,.int .i64 0])/\(∃ x y z,q=.slice x y z)/\(∃ x y z,r=.slice x y z)/\de w gv gr gd gm gt gk ge g s l m T A C (64*(wl A*wl A)+64) (4*Lib.bitLen (wl A)+8) (.returned (.tuple #[q,r,.int .i64 0])) w':=by
  rintro W K M e w' bW ⟨q,r,gq,gx,s',m',k1,k2,k3,⟨k4,k5,k6⟩,k7,k8,k9,k0,k11,k12⟩ hK hM
  have sz:=bW.size
  exact⟨q,r,k1,k2.toW.shape,k3.toW.shape,q,r,gq,gx,s',m',rfl,k2,k3,⟨k4,by omega,by omega⟩,k7,k8,by omega,k0,by omega,(Out.of_below bW).trans k12⟩
 by_cases hs:(wl C:Int)<T.clamp.row.getD 3 0\/(wl (A/C):Int)<T.clamp.row.getD 3 0
 ·refine(Kz w gv gr gd gm gt gk ge g s l m T u v A C hE h0 (by omega) h2 (by omega) hu hv hC hs).mono fun e w' h=>hup _ _ e w' ?_ (by omega) h
  unfold jL
  split
  ·omega
  ·rcases DI (a:=wl A) (c:=wl C) wC0 with h|h
   ·exact h
   ·omega
 ·have hs':¬(wl C:Int)<T.clamp.row.getD 3 0/\¬(wl (A/C):Int)<T.clamp.row.getD 3 0:=by omega
  have hL4:4<=wl C:=by omega
  have hQ4:4<=wl (A/C):=by omega
  have hqle:=Bd (A:=A) hC
  have hnn:¬wl A<wl C:=fun h=>by have:=kO h;omega
  have hA0:0<A:=by
   refine Nat.pos_of_ne_zero fun e=>?_
   rw[e,aZ]at hnn
   omega
  have hbm:=ei (wl A) (wl C) (by omega) (by omega)
  have hbm2:=ei (wl A) (wl C-1) (by omega) (by omega)
  refine GN w gv gr gd gm gt gk ge g s l m T u v A C _ _ hE hu hv hC hs'.1 hs'.2 rfl (fun W a d bW ia jd=>?_)
  by_cases hr:T.clamp.row.getD 4 0<=(wl C:Int)
  ·rw[if_pos (by simpa using hr)]
   obtain⟨a',hab,a0,a1⟩:=hU hA0 (Nat.le_refl (wl A))
   obtain⟨b',hbb,b0,b1⟩:=hU hC (Nat.le_refl (wl C))
   have hcost:=Gg (A:=A) (b:=b') (n:=min (a'+1) (b'+1+64*min (wl C) (wl (A/C)))) hC rfl hL4 hQ4 rfl (Nat.min_le_right _ _) (by omega) rfl
   refine(BV W gv gr gd gm gt gk ge g s l m T a d A C a' b' _ _ _ _ (hE.next bW) (hT.next bW) h0 (by omega) h2 (by omega) ia jd hC hwA a0 a1 b0 b1 rfl (by omega) rfl rfl rfl).mono fun e w' h=>hfm W _ _ e w' bW h hcost ?_
   unfold dI
   omega
  ·rw[if_neg (by simpa using hr)]
   have hcost:=KP (f:=wl C) (L:=wl C) (Q:=wl (A/C)) (S:=wl A) hL4 hQ4 (by omega)
   refine(wF W gv gr gd gm gt gk ge g s l m T a d A C (hE.next bW) (hT.next bW) h0 (by omega) h2 h3 ia.inM jd.inM hC (by omega) hs'.1 hs'.2).mono fun e w' h=>hfm W _ _ e w' bW h hcost ?_
   unfold dI iF
   omega
theorem cG:df:=by
 intro w gv gr gd gm gt gk ge g s l m T u v A C hE hT h0 h1 h2 h3 hu hv hC wA _
 refine(jJ w gv gr gd gm gt gk ge g s l m T u v A C hE hT h0 (by omega) h2 h3 hu hv hC (by omega)).mono ?_
 rintro e w' ⟨q,r,gq,gx,s',m',k1,k2,k3,k4,k5,k6,k7,k8,k9,k0⟩
 exact⟨q,r,gq,gx,s',m',k1,k2,k3,k4,k5,⟨by omega,k7⟩,k9,k0⟩
theorem gR:ja:=by
 intro w gv gr gd gm gt gk ge g s l m T u v A hE _ h0 _ _ _ hu hv _
 refine(KA w gv u v A hu hv).mono ?_
 rintro e w' ⟨k1,rfl⟩
 exact⟨none,0,none,0,s,m,k1,hE,⟨h0,by omega⟩,Out.refl _ _⟩
theorem qB:lT:=by
 intro w gv gr gd gm gt gk ge g s l m T u v A hE _ h0 _ _ _ hu hv _
 refine(KV w gv u v A hu hv).mono ?_
 rintro e w' ⟨k1,rfl⟩
 exact⟨none,0,none,0,s,m,k1,hE,⟨h0,by omega⟩,Out.refl _ _⟩
theorem xZ:pr:=by
 intro w gv gr gd gm gt gk ge g s l m T u v A C hE hT h0 h1 h2 h3 hu hv hC wA wC
 have wC0:0<wl C:=by have:=ay (n:=C);omega
 by_cases hs:(wl C:Int)<T.clamp.row.getD 3 0\/(wl (A/C):Int)<T.clamp.row.getD 3 0
 ·have hl:jL A C<=268468225:=Be hu.wlM hv.wlM
  refine(KU w gv gr gd gm gt gk ge g s l m T u v A C hE h0 (by omega) h2 (by omega) hu hv hC hs).mono ?_
  rintro e w' ⟨q,r,gq,gx,s',m',k1,k2,k3,k4,k5,k6,k7,k8,k9,k0⟩
  exact⟨q,r,gq,gx,s',m',k1,k2,k3,k4,k5,⟨by omega,by omega⟩,k0⟩
 ·have hs':¬(wl C:Int)<T.clamp.row.getD 3 0/\¬(wl (A/C):Int)<T.clamp.row.getD 3 0:=by omega
  have hQ:=aS (Nat.div_le_self A C)
  have hF:=KQ (f:=wl C) (L:=wl C) (Q:=wl (A/C)) wC0 (by omega) (by omega)
  refine(wF w gv gr gd gm gt gk ge g s l m T u v A C hE hT h0 (by omega) h2 h3 hu hv hC (by omega) hs'.1 hs'.2).mono ?_
  rintro e w' ⟨q,r,gq,gx,s',m',k1,k2,k3,k4,k5,k6,k7,k8,k9,k0⟩
  exact⟨q,r,gq,gx,s',m',k1,k2,k3,k4,k5,⟨by omega,by omega⟩,k0⟩
end Go.Proofs.YtpdpnomocbehkaaGreatDoor
/- Exact and Divides of the landed package div. -/
namespace Go.Proofs.YtpdpnomocbehkaaGreatDoor
open Go.RowKit
set_option maxRecDepth 100000 in
set_option maxHeartbeats 3200000 in
theorem qA:mY:=by
 intro w gv gr gd gm gt gk ge g s l m T u v A C hE hT h0 h1 h2 h3 hu hv hC wA wC hA
 have CD:Hid (Calls Tryz.prog 12 #[.pointer (some ⟨gv,0,none⟩),u,v] w fun e w'=>∃ qa ql qc r gq s' m',e=.returned (.tuple #[.slice qa ql qc,r,.int .i64 0])/\aO gq (gq+1) w' (.slice qa ql qc) (A/C)/\w.heap.size<=gq/\ah w.heap.size w' r 0/\aw w' gv gr gd gm gt gk ge g s' l m' T/\(0<=s'/\s'<=s+9007199254740992)/\Out (·=g) w w'):=by
  refine(cG w gv gr gd gm gt gk ge g s l m T u v A C hE hT h0 h1 h2 h3 hu hv hC wA wC).mono ?_
  rintro e w' ⟨q,r,gq,gx,s',m',k1,k2,k3,⟨_,k5,k6⟩,k7,⟨k8,k9⟩,_,k0⟩
  obtain⟨qa,ql,qc,rfl⟩:=k2.toW.shape
  rw[hA]at k3
  have hAA:wl A*wl A<=250*250:=Nat.mul_le_mul wA wA
  exact⟨qa,ql,qc,r,gq,s',m',k1,k2,k5,k3.toW.mono k6,k7,⟨k8,by omega⟩,k0⟩
 obtain⟨gu,lu,cu,rfl⟩:=hu.inW.is
 obtain⟨gw,lw,cw,rfl⟩:=hv.inW.is
 clear hu hv hE hT h0 h1 h2 h3 hC wA wC hA
 go_enter Tryz.func32,Tryz.ntmps32
 go_wp2_with fail
 with_reducible refine(ae CD).mono ?_
 rintro e w1 ⟨qa,ql,qc,r,gq,s',m',rfl,n1,hq,n2,E1,hs,o1⟩
 have CZ:=hide (cL (n2.wlW (by rw[aZ];omega)) true (by simp))
 obtain⟨ra,rl,rc,rfl⟩:=n2.shape
 have HX:=hide (And.intro n1 (And.intro hq (And.intro E1 (And.intro hs o1))))
 clear CD n1 hq n2 E1 hs o1
 go_wp2_with fail
 with_reducible refine(ae CZ).mono ?_
 rintro e w2 ⟨rfl,hw⟩
 obtain rfl:=hw.symm
 clear hw CZ
 go_wp2
 go_ret2
 obtain⟨a1,a2,a3,a4,a5⟩:=ae HX
 exact⟨_,gq,s',m',rfl,a1,a2,a3,a4,a5⟩
set_option maxRecDepth 100000 in
set_option maxHeartbeats 3200000 in
theorem rj:nZ:=by
 intro w gv gr gd gm gt gk ge g s l m T u v A C x hE hT h0 h1 h2 h3 hu hv wA wC hx
 rcases hx with⟨rfl,rfl⟩|⟨hC,hA,rfl⟩
 ·have CD:=hide (gR w gv gr gd gm gt gk ge g s l m T u v A hE hT h0 h1 h2 h3 hu hv wA)
  unfold PT at CD
  obtain⟨gu,lu,cu,rfl⟩:=hu.inW.is
  obtain⟨gw,lw,cw,rfl⟩:=hv.inW.is
  clear hu hv hE hT h0 h1 h2 h3 wA wC
  go_enter Tryz.func32,Tryz.ntmps32
  go_wp2_with fail
  with_reducible refine(ae CD).mono ?_
  rintro e w1 ⟨qa,qc,ra,rc,s',m',rfl,E1,hs,o1⟩
  have HX:=hide (And.intro E1 (And.intro hs o1))
  clear CD E1 hs o1
  go_wp2
  go_ret2
  obtain⟨a3,a4,a5⟩:=ae HX
  exact⟨none,0,s',m',rfl,a3,a4,a5⟩
 ·have CD:Hid (Calls Tryz.prog 12 #[.pointer (some ⟨gv,0,none⟩),u,v] w fun e w'=>∃ qa ql qc r s' m',e=.returned (.tuple #[.slice qa ql qc,r,.int .i64 0])/\ah w.heap.size w' r (A%C)/\aw w' gv gr gd gm gt gk ge g s' l m' T/\(0<=s'/\s'<=s+9007199254740992)/\Out (·=g) w w'):=by
   refine(cG w gv gr gd gm gt gk ge g s l m T u v A C hE hT h0 h1 h2 h3 hu hv hC wA wC).mono ?_
   rintro e w' ⟨q,r,gq,gx,s',m',k1,k2,k3,⟨_,k5,k6⟩,k7,⟨k8,k9⟩,_,k0⟩
   obtain⟨qa,ql,qc,rfl⟩:=k2.toW.shape
   have hAA:wl A*wl A<=250*250:=Nat.mul_le_mul wA wA
   exact⟨qa,ql,qc,r,s',m',k1,k3.toW.mono k6,k7,⟨k8,by omega⟩,k0⟩
  have wR:wl (A%C)<=250:=Nat.le_trans (aS (Nat.le_of_lt (Nat.mod_lt A hC))) wC
  generalize A%C=R at *
  obtain⟨gu,lu,cu,rfl⟩:=hu.inW.is
  obtain⟨gw,lw,cw,rfl⟩:=hv.inW.is
  clear hu hv hE hT h0 h1 h2 h3 hC wA wC
  go_enter Tryz.func32,Tryz.ntmps32
  go_wp2_with fail
  with_reducible refine(ae CD).mono ?_
  rintro e w1 ⟨qa,ql,qc,r,s',m',rfl,n2,E1,hs,o1⟩
  have CZ:=hide (cL (n2.wlW (by omega)) false (by simp;omega))
  obtain⟨ra,rl,rc,rfl⟩:=n2.shape
  have HX:=hide (And.intro E1 (And.intro hs o1))
  clear CD n2 E1 hs o1
  go_wp2_with fail
  with_reducible refine(ae CZ).mono ?_
  rintro e w2 ⟨rfl,hw⟩
  obtain rfl:=hw.symm
  clear hw CZ
  go_wp2
  go_ret2
  obtain⟨a3,a4,a5⟩:=ae HX
  exact⟨none,0,s',m',rfl,a3,a4,a5⟩
end Go.Proofs.YtpdpnomocbehkaaGreatDoor
