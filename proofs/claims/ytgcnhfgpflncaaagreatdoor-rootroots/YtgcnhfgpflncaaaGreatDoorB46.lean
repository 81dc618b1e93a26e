/- half of the landed package div: three halves by two. -/
import Derived.Deep.RegionHeld3
import Derived.Test.YtgcnhfgpflncaaaGreatDoorB45
import Derived.Test.YtgcnhfgpflncaaaGreatDoorB38
import Derived.Test.YtgcnhfgpflncaaaGreatDoorB9
import Derived.Test.YtgcnhfgpflncaaaGreatDoorB44
import Derived.Lib.BitFns
import Derived.Test.YtgcnhfgpflncaaaGreatDoorB7
import Derived.Test.YtgcnhfgpflncaaaGreatDoorB37
import Derived.Test.YtgcnhfgpflncaaaGreatDoorB40
import Derived.Test.YtgcnhfgpflncaaaGreatDoorB1
import Derived.Test.YtgcnhfgpflncaaaGreatDoorB22
import Derived.Test.YtgcnhfgpflncaaaGreatDoorB33
namespace Go.Proofs.YtgcnhfgpflncaaaGreatDoor
open Go.RowKit
def mF(n:Nat):Nat:=Lib.bitLen (n-1)
theorem GV{n:Nat}(h:2<=n)(hn:n<=16384):mF (n-n/2)+1=mF n:=by
 unfold mF
 rw[Lib.bitLen_half (n-1) (by omega) (by omega),show n-n/2-1=(n-1)/2 by omega,Nat.add_comm]
theorem yN{n:Nat}(hn:n<=16384):mF n<=16:=sM (by omega)
def jt(w:World)(gv gr gd gm gt gk ge g:Nat)(s l m:Int)(T:Tab)(A C K M:Nat)(e:Ending)(w':World):Prop:=
 ∃ q r gq gx s' m',e=.returned (.tuple #[q,r])/\aS gq (gq+1) w' q (A/C)/\aS gx (gx+1) w' r (A%C)/\(gq≠gx/\w.heap.size<=gq/\w.heap.size<=gx)/\aN w' gv gr gd gm gt gk ge g s' l m' T/\s<=s'/\s'<=s+(K:Int)/\m<=m'/\m'<=max m (l+(M:Int))/\Out (·=g) w w'
def zO(f:Nat):Prop:=∀(w:World) (gv gr gd gm gt gk ge g:Nat) (s l m:Int) (T:Tab) (u v:Value) (A C:Nat),
 aN w gv gr gd gm gt gk ge g s l m T->TB w->0<=s->s+(hF f (wl C) (wl (A/C)):Int)<=1143914305352105984->0<=l->l+(mF (wl C):Int)<=1000->dF w u A->dF w v C->0<C->wl C<=f->
 Calls Tryz.prog 97 #[.pointer (some ⟨gv,0,none⟩),u,v] w (jt w gv gr gd gm gt gk ge g s l m T A C (hF f (wl C) (wl (A/C))) (mF (wl C)+cZ (wl C)))
theorem oH.next{w w':World}{v:Value}{n k:Nat}(h:oH w v n k)(b:Below w.heap.size w w'):oH w' v n k:=by
 obtain⟨ga,b',o,cap,xs,hv,hl,hr,hd,hx⟩:=h
 exact⟨ga,b',o,cap,xs,hv,hl,hr.next b,hd,hx⟩
theorem aN.inL2{w w':World}{gv gr gd gm gt gk ge g:Nat}{s l m:Int}{T:Tab}(h:aN w gv gr gd gm gt gk ge g s l m T)(o:Out (·=g) w w'){v:Value}{n k:Nat}(r:oH w v n k):oH w' v n k:=by
 obtain⟨ga,b',oo,cap,xs,hv,hl,hr,hd,hx⟩:=r
 exact⟨ga,b',oo,cap,xs,hv,hl,h.rep o hr,hd,hx⟩
theorem yw{B:Nat}(w:World)(u v:Value)(A C k:Nat)(hu:oH w u A k)(hk:k<=16384)(hv:ah B w v C)(hC:wl C<=16384):
  Calls Tryz.prog 95 #[.slice (some ⟨w.heap.size,0,none⟩) 2 2] (w.alloc (.cells #[u,v] 29)) fun e w'=>∃ r,e=.returned r/\aO w.heap.size w' r (A+18446744073709551616^k*C)/\Below w.heap.size w w':=by
 obtain⟨ga,b,o,cap,xs,hv',hl,hr,hd,hx⟩:=hu
 refine yA w u v A C k ga b o cap xs hv' hl hr hd hx (hv.wlW (by omega)) hk ?_
 intro ys ⟨gb,b',o',cap',e,_⟩ _ _
 obtain⟨gc,_,cc,zs,e2,_,hc,hz,_⟩:=hv.rep
 rw[e]at e2
 have e3:ys.length=zs.length:=by injection e2
 have:=fa hc
 rw[hz]at this
 omega
theorem zJ(a b:Nat):wl (a+b)<=wl a+wl b+1:=by
 refine bQ _ _ ?_
 have h1:=dw (n:=a) (l:=wl a) (Nat.le_refl _)
 have h2:=dw (n:=b) (l:=wl b) (Nat.le_refl _)
 have h3:18446744073709551616^wl a<=18446744073709551616^(wl a+wl b):=Nat.pow_le_pow_right (by omega) (by omega)
 have h4:18446744073709551616^wl b<=18446744073709551616^(wl a+wl b):=Nat.pow_le_pow_right (by omega) (by omega)
 rw[Nat.pow_succ]
 omega
theorem ah.toJ{B:Nat}{w:World}{v:Value}{n:Nat}(h:ah B w v n)(hn:wl n<=1073741824):aO B w v n:=h.toI (dw hn) (Nat.le_refl _)
theorem dF.low{w:World}{b o n cb C h:Nat}(hv:dF w (.slice (some ⟨b,o,none⟩) n cb) C)(h0:0<n)(hh:h<=n):bh w (.slice (some ⟨b,o,none⟩) h cb) (C%18446744073709551616^h):=by
 have hw:=hv.wlM
 obtain⟨xs,hl,hr,hc,hx⟩:=hv.head h0
 have e:=fa hc
 rw[hx]at e
 have hlen:(xs.take h).length=h:=by simp;omega
 exact⟨_,b,o,cb,xs.take h,by rw[hlen],hr.take h (by omega),aX hc.1 h,by rw[xI hc.1,hx],by omega⟩
def sE(w:World)(gv gr gd gm gt gk ge g:Nat)(s l m:Int)(T:Tab)(X C K M:Nat)(e:Ending)(w':World):Prop:=
 ∃ q r s' m',e=.returned (.tuple #[q,r])/\ah w.heap.size w' q (X/C)/\ah w.heap.size w' r (X%C)/\aN w' gv gr gd gm gt gk ge g s' l m' T/\s<=s'/\s'<=s+(K:Int)/\m<=m'/\m'<=max m (l+(M:Int))/\Out (·=g) w w'
set_option maxRecDepth 100000 in
set_option maxHeartbeats 6400000 in
theorem Cb(f:Nat)(IH:zO f)(w:World)(gv gr gd gm gt gk ge g:Nat)(s l m:Int)(T:Tab)(u v d:Value)(x y C n h:Nat)
  (hE:aN w gv gr gd gm gt gk ge g s l m T) (hT:TB w) (h0:0<=s) (h1:s+(eF (f+1) n:Int)<=1143914305352105984) (h2:0<=l) (h3:l+(mF (n-h):Int)<=1000)
  (hu:oH w u x h) (hv:dF w v y) (hd:dF w d C) (hy:y<C) (hn:n=wl C) (hh:h=n/2) (hn2:2<=n) (hf:n-h<=f):
  Calls Tryz.prog 125 #[.pointer (some ⟨gv,0,none⟩),u,v,d] w (sE w gv gr gd gm gt gk ge g s l m T (y*18446744073709551616^h+x) C (eF (f+1) n) (mF (n-h)+cZ n)):=by
 have wC:=hd.wlM
 rw[<-hn]at wC
 have hC0:0<C:=by omega
 obtain⟨C1,hC1⟩:∃ C1,C1=C/18446744073709551616^h:=⟨_,rfl⟩
 obtain⟨C0,hC0e⟩:∃ C0,C0=C%18446744073709551616^h:=⟨_,rfl⟩
 have hCe:C=C0+18446744073709551616^h*C1:=by rw[hC1,hC0e,Nat.add_comm];exact(Nat.div_add_mod _ _).symm
 have hC0l:C0<18446744073709551616^h:=by rw[hC0e];exact Nat.mod_lt _ (eI h)
 obtain⟨gb,b,o,cb,rfl,hcb,hgb⟩:=hd.is
 rw[<-hn]at hd hcb hgb ⊢
 obtain rfl:=hgb (by omega)
 obtain⟨cc,hcc⟩:∃ cc,cb-h=cc:=⟨_,rfl⟩
 obtain⟨p,hp⟩:∃ p,n-h=p:=⟨_,rfl⟩
 have hup:∀ W,dF W (.slice (some ⟨b,o,none⟩) n cb) C->dF W (.slice (some ⟨b,o+h,none⟩) p cc) C1:=fun W hW=>by rw[hC1];exact hW.above (by omega) (by omega) hcc.symm
 have hlo:∀ W,dF W (.slice (some ⟨b,o,none⟩) n cb) C->bh W (.slice (some ⟨b,o,none⟩) h cb) C0:=fun W hW=>by rw[hC0e];exact hW.low (by omega) (by omega)
 have wC1:wl C1=p:=by
  obtain⟨_,_,_,_,e,_,_⟩:=(hup w hd).is
  injection e with _ e2 _
  exact e2.symm
 have hC1p:0<C1:=by
  refine Nat.pos_of_ne_zero fun e=>?_
  rw[e,fK]at wC1
  omega
 have wC0:wl C0<=h:=bQ _ _ hC0l
 have wq:wl (y/C1)<=h+1:=Pq hC1p hCe hC0l hy
 have wr:wl (y%C1)<=16384:=by
  have:=aH (Nat.le_of_lt (Nat.mod_lt y hC1p))
  omega
 have hx:x<18446744073709551616^h:=by
  obtain⟨_,_,_,_,xs,_,e1,_,e2,e3⟩:=hu
  rw[<-e3, <-e1]
  exact ak e2
 obtain⟨st1,st2⟩:=Gy (Hi:=y) (eI h) hC1p hCe hx
 obtain⟨X,hX⟩:∃ X,X=y*18446744073709551616^h+x:=⟨_,rfl⟩
 rw[<-hX]at st1 st2 ⊢
 -- what is spent
 obtain⟨K1,hK1⟩:∃ K1,K1=hF f p (wl (y/C1)):=⟨_,rfl⟩
 have hK:K1+8*(wl (y/C1)*wl C0)<=eF (f+1) n:=by
  rw[Af, <-hh,hp,hK1]
  have a1:hF f p (wl (y/C1))<=hF f p (h+1):=by
   unfold hF
   have b1:(wl (y/C1)+1)*(p+1)<=(h+1+1)*(p+1):=Nat.mul_le_mul_right _ (by omega)
   have b2:cd (wl (y/C1)) (p/2)*eF f p<=cd (h+1) (p/2)*eF f p:=Nat.mul_le_mul_right _ (J6 wq)
   omega
  have a2:wl (y/C1)*wl C0<=(h+1)*h:=Nat.mul_le_mul wq wC0
  omega
 have hlvp:=yN (n:=p) (by omega)
 have CH:=hide (IH w gv gr gd gm gt gk ge g s l m T v _ y C1 hE hT h0 (by rw[wC1, <-hK1];omega) h2 (by rw[wC1, <-hp];exact h3) hv (hup w hd) hC1p (by omega))
 rw[wC1, <-hK1]at CH
 have dm:=fk (a:=p) (b:=n) (by omega) (by omega)
 have dm2:=fk (a:=max (wl (y/C1)) (wl C0)) (b:=n) (by omega) (by omega)
 obtain⟨KM,hKM⟩:∃ KM,KM=max m (l+((mF p+cZ n:Nat):Int)):=⟨_,rfl⟩
 have hgl:=hE.met.lt
 obtain⟨R0,hR0⟩:∃ R0,R0=x+18446744073709551616^h*(y%C1):=⟨_,rfl⟩
 obtain⟨L,hL⟩:∃ L,L=y/C1*C0:=⟨_,rfl⟩
 obtain⟨q0,hq0⟩:∃ q0,q0=y/C1:=⟨_,rfl⟩
 have wL:wl L<=32769:=by
  have:=gG (y/C1) C0
  rw[<-hL]at this
  omega
 have wR0:wl R0<=50000:=by
  have a1:=zJ x (18446744073709551616^h*(y%C1))
  have a2:=bQ _ _ hx
  have a3:=gG (18446744073709551616^h) (y%C1)
  have a4:wl (18446744073709551616^h)<=h+1:=bQ _ _ (by rw[Nat.pow_succ];have:=eI h;omega)
  rw[<-hR0]at a1
  omega
 have CC:Hid (∀ w1 r,Out (·=g) w w1->ah w.heap.size w1 r (y%C1)->Calls Tryz.prog 95 #[.slice (some ⟨w1.heap.size,0,none⟩) 2 2] (w1.alloc (.cells #[u,r] 29)).drew fun e w'=>∃ rest,e=.returned rest/\aO w.heap.size w' rest R0/\Below w1.heap.size w1 w'):=fun w1 r o nr=>by
  rw[hR0]
  show Calls Tryz.prog 95 #[.slice (some ⟨w1.heap.size,0,none⟩) 2 2] (w1.drew.alloc (.cells #[u,r] 29)) _
  have:=yw (B:=w.heap.size) w1.drew u r x (y%C1) h ((hE.inL2 o hu).next ((Below.refl _ _).drew)) (by omega) (nr.next ((Below.refl _ _).drew)) wr
  refine this.mono ?_
  rintro e w' ⟨rest,he,hn,hb⟩
  have hb':Below w1.heap.size w1 w':=ag ((Below.refl _ w1).drew) hb
  exact⟨rest,he,hn.mono o.size,hb'⟩
 have CM:Hid (∀ w1 W q rest (s1 m1:Int),Out (·=g) w w1->aN w1 gv gr gd gm gt gk ge g s1 l m1 T->ah w.heap.size w1 q q0->Below w1.heap.size w1 W->aO w.heap.size W rest R0->s<=s1->s1<=s+(K1:Int)->m<=m1->m1<=KM->Calls Tryz.prog 65 #[.pointer (some ⟨gm,0,none⟩),q,.slice (some ⟨b,o,none⟩) h cb] W fun e w'=>∃ p s' m',e=.returned p/\ah w.heap.size w' p L/\aO w.heap.size w' rest R0/\ah w.heap.size w' q q0/\aN w' gv gr gd gm gt gk ge g s' l m' T/\s<=s'/\s'<=s+(eF (f+1) n:Int)/\m<=m'/\m'<=KM/\Out (·=g) w w'):=fun w1 W q rest s1 m1 o E nq bW nR k1 k2 k3 k4=>by
  rw[hq0]at nq
  have E':=E.next bW
  have oW:=o.next bW
  refine(ip W gr gd gm gt gk ge g s1 l m1 T q _ (y/C1) C0 E'.rcp (hE.rcp.tb oW hT) (by omega) (by omega) h2 (by omega) ((nq.next bW).wlM (by omega)) (hlo _ (hE.rcp.inC oW hd))).mono ?_
  rintro e w' ⟨pp,s',m',j1,j2,j3,j4,j5,j6,j7,j8⟩
  rw[<-hL]at j2
  refine⟨pp,s',m',j1,j2.mono oW.size,nR.out j8 (fun k e=>by rw[e];exact hgl),hq0▸E'.rcp.newW j8 (nq.next bW),E'.kept j8 j3,by omega,by omega,by omega,by omega,oW.trans j8⟩
 have CO:Hid (∀ W,Calls Tryz.prog 34 #[.int .u64 1] W fun e w'=>∃ r,e=.returned r/\ah W.heap.size w' r 1/\Below W.heap.size W w'):=fun W=>kK W 1 (by decide)
 have HD:Hid (∀ W,Out (·=g) w W->aL W (.slice (some ⟨b,o,none⟩) n cb) C):=fun W oW=>(hE.rcp.inC oW hd).inM.inW
 have CX:Hid (∀ W rest R less,wl R<=100000->aO w.heap.size W rest R->ah w.heap.size W less L->Calls Tryz.prog 43 #[rest,less] W fun e w'=>e=.returned (.int .i64 (aV R L))/\Below W.heap.size W w'):=fun W rest R less _ nR nl=>lQ W rest less R L nR.inW (nl.wlW (by omega))
 have C0':Hid (∀ W u v Q,wl Q<=1000000->ah w.heap.size W u Q->ah w.heap.size W v 1->0<Q->Calls Tryz.prog 45 #[u,v] W fun e w'=>∃ r,e=.returned (.tuple #[r,.bool true])/\ah W.heap.size w' r (Q-1)/\Below W.heap.size W w'):=fun W u v Q h n n1 hle=>(gA W u v Q 1 (n.wlW (by omega)) (n1.toIn (p:=1) (by decide) (by omega))).mono fun e w' ⟨b,hh⟩=>by
  rcases hh with⟨_,r,he,hn⟩|⟨hlt,_⟩
  ·exact⟨r,he,hn,b⟩
  ·omega
 have CA:Hid (∀ W rest R,Out (·=g) w W->aO w.heap.size W rest R->Calls Tryz.prog 56 #[rest,.slice (some ⟨b,o,none⟩) n cb] W fun e w'=>∃ r,e=.returned r/\ah W.heap.size w' r (R+C)/\Below W.heap.size W w'):=fun W rest R oW nR=>jo W rest _ R C nR.inW (ae HD _ oW)
 have CS:Hid (∀ W rest R less,aO w.heap.size W rest R->ah w.heap.size W less L->L<=R->Calls Tryz.prog 45 #[rest,less] W fun e w'=>∃ r,e=.returned (.tuple #[r,.bool true])/\ah W.heap.size w' r (R-L)/\Below W.heap.size W w'):=fun W rest R less nR nl hle=>(gA W rest less R L nR.inW (nl.wlW (by omega))).mono fun e w' ⟨b,hh⟩=>by
  rcases hh with⟨_,r,he,hn⟩|⟨hlt,_⟩
  ·exact⟨r,he,hn,b⟩
  ·omega
 have HF:Hid (∀ W q r s' m',ah w.heap.size W q (X/C)->ah w.heap.size W r (X%C)->aN W gv gr gd gm gt gk ge g s' l m' T->s<=s'->s'<=s+(eF (f+1) n:Int)->m<=m'->m'<=KM->Out (·=g) w W->sE w gv gr gd gm gt gk ge g s l m T X C (eF (f+1) n) (mF (n-h)+cZ n) (.returned (.tuple #[q,r])) W):=fun W q r s' m' a1 a2 a3 a4 a5 a6 a7 a8=>⟨q,r,s',m',rfl,a1,a2,a3,a4,a5,a6,by rw[hp, <-hKM];exact a7,a8⟩
 obtain⟨val,hval⟩:=xf
 have HV:=hide hval
 have HH:Hid (∀ q r gq gx (m1:Int) w1,aS gq (gq+1) w1 q (y/C1)->aS gx (gx+1) w1 r (y%C1)->(gq≠gx/\w.heap.size<=gq/\w.heap.size<=gx)->m1<=max m (l+((mF p+cZ p:Nat):Int))->ah w.heap.size w1 q q0/\ah w.heap.size w1 r (y%C1)/\m1<=KM):=fun q r gq gx m1 w1 a1 a2 a3 a4=>⟨hq0▸a1.toW.mono a3.2.1,a2.toW.mono a3.2.2,by omega⟩
 have HST:=hide (show X+L=R0+q0*C by rw[hL,hR0,hq0];exact st1)
 have HSQ:=hide (show X/C<=q0 by rw[hq0];exact st2)
 have HC0:=hide hC0
 have wC':wl C<=16384:=by omega
 have wq0:wl q0<=20000:=by rw[hq0];omega
 obtain⟨ga,_,_,ca,rfl,_,_⟩:=id hv.is
 obtain⟨gu,_,_,cu,_,hue,_⟩:=id hu
 subst hue
 have k1:h<=n/\h<=cb/\¬cb=h:=by omega
 obtain⟨k1,k2,k3⟩:=k1
 unfold jt at CH
 clear IH hE hT h0 h1 h2 h3 hu hv hd hy hn hh hf hC1 hC0e hCe hC0l hup hlo wC1 hC1p wC0 wq wr hx st1 st2 hX hK hK1 dm dm2 hKM hgl hR0 hL hq0 hval hC0 hlvp
 generalize sE w gv gr gd gm gt gk ge g s l m T X C (eF (f+1) n) (mF (n-h)+cZ n)=SA at *
 generalize (eF (f+1) n:Int)=KE at *
 generalize max m (l+((mF p+cZ p:Nat):Int))=KM1 at *
 generalize (K1:Int)=KK at *
 generalize y/C1=yq at *
 generalize y%C1=yr at *
 generalize wl y=ly at *
 suffices H:Calls Tryz.prog 125 #[.pointer (some ⟨gv,0,none⟩),.slice gu h cu,.slice ga ly ca,.slice (some ⟨b,o,none⟩) n cb] w (fun e w'=>∃ v,e=.returned v/\SA (.returned v) w') from H.mono (fun e w' ⟨v,he,h⟩=>he▸h)
 go_enter Tryz.func125,Tryz.ntmps125
 go_wp2_with fail
 with_reducible refine(ae CH).mono ?_
 rintro e w1 ⟨q,r,gq,gx,s1,m1,rfl,nq,nr,hg,E1,a1,a2,a3,a4,o1⟩
 obtain⟨nq,nr,a4⟩:=ae HH q r gq gx m1 w1 nq nr hg a4
 have CC:=hide (ae CC w1 r o1 nr)
 have CM:=hide (fun W rest=>ae CM w1 W q rest s1 m1 o1 E1 nq)
 have HC:Hid (∀ W,Below w1.heap.size w1 W->W.cell? ⟨gv,0,none⟩=some (.pointer (some ⟨gr,0,none⟩))/\W.cell? ⟨gr,0,none⟩=some (.pointer (some ⟨gd,0,none⟩))/\W.cell? ⟨gd,0,none⟩=some (.pointer (some ⟨gm,0,none⟩))):=fun W bW=>by
  obtain⟨e0,e1,e2,_⟩:=(E1.next bW).way
  exact⟨e0,e1,e2⟩
 have HW:Hid (∀ W s' m',aN W gv gr gd gm gt gk ge g s' l m' T->W.cell? ⟨gv,0,none⟩=some (.pointer (some ⟨gr,0,none⟩))/\W.cell? ⟨gr,0,none⟩=some (.pointer (some ⟨gd,0,none⟩))/\W.cell? ⟨gd,0,none⟩=some (.pointer (some ⟨gm,0,none⟩))):=fun W s' m' E=>by
  obtain⟨e0,e1,e2,_⟩:=E.way
  exact⟨e0,e1,e2⟩
 have bl:Below w1.heap.size w1 w1.drew:=(Below.refl _ _).drew
 have bA:Below w1.heap.size w1 (w1.alloc (.cells #[.slice gu h cu,r] 29)).drew:=((Below.refl _ w1).alloc (Nat.le_refl _) _).drew
 obtain⟨qa,ql,qc,rfl⟩:=nq.shape
 obtain⟨ra,rl,rc,rfl⟩:=nr.shape
 clear CH HH E1 o1 nq nr hg
 go_wp2_with fail
 (try simp only[List.append_eq,List.cons_append,List.nil_append])
 go_region_held3 (fun w'=>w'.cell? ⟨gv,0,none⟩=some (.pointer (some ⟨gr,0,none⟩))/\w'.cell? ⟨gr,0,none⟩=some (.pointer (some ⟨gd,0,none⟩))/\w'.cell? ⟨gd,0,none⟩=some (.pointer (some ⟨gm,0,none⟩))) (first|(exact ae HC _ bl)|(exact ae HC _ bA)|(exact ae HW _ _ _ E3)|(exact ae HW _ _ _ E4)|go_keep) (first
  |(with_reducible refine(ae CC).mono ?_;rintro e w2 ⟨rest,rfl,nR,bl⟩)
  |(with_reducible refine(ae CM _ _ bl nR a1 a2 a3 a4).mono ?_;rintro e w3 ⟨less,s3,m3,rfl,nL,nR,nq,E3,d1,d2,d3,d4,o3⟩)
  |(with_reducible refine(ae CO _).mono ?_;rintro e w4 ⟨one,rfl,n4,b4⟩;have E4:=aN.next E3 b4)
  |fail)
 have NQ:=hide (nq.next b4)
 have NR:=hide (nR.next b4)
 have NL:=hide (nL.next b4)
 have NO:=hide (n4.mono (B':=w.heap.size) o3.size)
 have HE:=hide E4
 have HO:=hide (o3.next b4)
 have sz:=(ae HO).size
 obtain⟨la,ll,lc,rfl⟩:=nL.shape
 obtain⟨oa,ol,oc,rfl⟩:=n4.shape
 clear nq nR nL n4 E3 E4 o3 b4 bl bA CC CM CO HC HW a1 a2 a3 a4 k1 k2 k3
 go_wp2
 go_loopw [8,11] (fun qv pv wr=>∃ Q R,Hid (X+L=R+Q*C)/\Hid (X/C<=Q)/\Q<=q0/\wl R<=60000/\Hid (ah w.heap.size wr qv Q)/\Hid (aO w.heap.size wr pv R)/\Below w4.heap.size w4 wr) (fun qv _ wr=>val wr qv)
 case atStart=>exact⟨q0,R0,HST,HSQ,Nat.le_refl _,by omega,NQ,NR,Below.refl _ _⟩
 case round=>
  clear NQ NR HST HSQ
  obtain⟨Q,R,e1,e2,hQ,hR,NQ,NR,b2⟩:=hrel
  have e1:=hide (ae e1)
  have e2:=hide (ae e2)
  have wQ:=aH hQ
  have hm1:=ae HV _ _ _ ((ae NQ).wlW (by omega))
  have o2:=(ae HO).next b2
  have CX1:=hide (ae CX _ _ _ _ (by omega) (ae NR) ((ae NL).next b2))
  obtain⟨qa,ql,qc,rfl⟩:=(ae NQ).shape
  obtain⟨pa,pl,pc,rfl⟩:=(ae NR).inW.is
  by_cases hlt:R<L
  ·have hc:aV R L= -1:=cK hlt
   obtain⟨f1,f2,f3⟩:=Kx (ae e1) (ae e2) (ae HC0) hlt
   rw[hc]at CX1
   have wRC:=zJ R C
   have wRL:=aH (Nat.le_of_lt hlt)
   have F2:=hide f2
   have F3:=hide f3
   clear hc CS HF e1 e2 f2 f3
   go_wp2_with fail
   with_reducible refine(ae CX1).mono ?_
   rintro e w5 ⟨rfl,b5⟩
   have C01:=hide (ae C0' _ _ _ _ (by omega) ((ae NQ).next b5) (((ae NO).next b2).next b5) f1)
   have NR:=hide ((ae NR).next b5)
   have b5:=ag b2 b5
   clear CX1 b2 o2 NQ
   go_wp2_with fail
   with_reducible refine(ae C01).mono ?_
   rintro e w6 ⟨q2,rfl,nq,b6⟩
   have CA1:=hide (ae CA _ _ _ ((ae HO).next (ag b5 b6)) ((ae NR).next b6))
   have s5:=b5.size
   have NQ:=hide (nq.mono (B':=w.heap.size) (by omega))
   have b6:=ag b5 b6
   obtain⟨qa',ql',qc',rfl⟩:=nq.shape
   clear C01 nq b5 NR
   go_wp2_with fail
   with_reducible refine(ae CA1).mono ?_
   rintro e w7 ⟨p2,rfl,np,b7⟩
   have s6:=b6.size
   have NR:=hide ((np.mono (B':=w.heap.size) (by omega)).toJ (by omega))
   have NQ:=hide ((ae NQ).next b7)
   have b7:=ag b6 b7
   have hm2:=ae HV _ _ _ ((ae NQ).wlW (by have:=aH (Nat.sub_le Q 1);omega))
   obtain⟨pa',pl',pc',rfl⟩:=np.shape
   clear CA1 np b6
   go_wp2
   go_roundw
   case rel=>exact⟨Q-1,R+C,F2,F3,by omega,by omega,NQ,NR,b7⟩
   case measure=>rw[hm1,hm2];omega
  ·obtain⟨c,hc0,hc⟩:∃ c:Int,aV R L=c/\¬c<0:=by
    refine⟨_,rfl,?_⟩
    rcases Nat.lt_or_ge L R with h|h
    ·rw[cJ h];decide
    ·rw[de (by omega)];decide
   rw[hc0]at CX1
   obtain⟨f1,f2⟩:=Of (ae e1) (ae e2) (ae HC0) (by omega)
   have F1:=hide f1
   have F2:=hide f2
   have HLT:=hide hlt
   clear hc0 C0' CA hm1 e1 e2 f1 f2 hlt
   go_wp2_with fail
   with_reducible refine(ae CX1).mono ?_
   rintro e w5 ⟨rfl,b5⟩
   have CS1:=hide (ae CS _ _ _ _ ((ae NR).next b5) (((ae NL).next b2).next b5) (by have:=ae HLT;omega))
   have NQ:=hide ((ae NQ).next b5)
   have b5:=ag b2 b5
   clear CX1 b2 o2 NR
   go_wp2_with fail
   with_reducible refine(ae CS1).mono ?_
   rintro e w6 ⟨r2,rfl,nr,b6⟩
   have s5:=b5.size
   have nq:=(ae NQ).next b6
   have nr':=nr.mono (B':=w.heap.size) (by omega)
   rw[ae F1]at nq
   rw[ae F2]at nr'
   have b6:=ag b5 b6
   have HX:=hide (ae HF _ _ _ _ _ nq nr' ((ae HE).next b6) d1 d2 d3 d4 ((ae HO).next b6))
   obtain⟨ra',rl',rc',rfl⟩:=nr.shape
   clear CS1 nq nr nr' NQ b5 b6 F1 F2
   go_wp2
   go_ret2
   exact⟨_,rfl,ae HX⟩
end Go.Proofs.YtgcnhfgpflncaaaGreatDoor
/- halves of the landed package div. -/
namespace Go.Proofs.YtgcnhfgpflncaaaGreatDoor
open Go.RowKit
set_option maxRecDepth 100000 in
set_option maxHeartbeats 3200000 in
theorem B9(w:World)(P0 P1 gv:Nat)(u v d:Value)(SA:Ending->World->Prop)(hu:∃ a l c,u=.slice a l c)(hv:∃ a l c,v=.slice a l c)(hd:∃ a l c,d=.slice a l c)
  (c0:w.cell? ⟨P0,0,none⟩=some (.pointer (some ⟨gv,0,none⟩))) (c1:w.cell? ⟨P1,0,none⟩=some d)
  (H:∀ W,Below w.heap.size w W->Calls Tryz.prog 125 #[.pointer (some ⟨gv,0,none⟩),u,v,d] W fun e w'=>∃ q r,e=.returned (.tuple #[q,r])/\SA (.returned (.tuple #[q,r])) w'):
  Calls Tryz.prog 124 #[u,v,.pointer (some ⟨P0,0,none⟩),.pointer (some ⟨P1,0,none⟩)] w SA:=by
 obtain⟨ua,ul,uc,rfl⟩:=hu
 obtain⟨va,vl,vc,rfl⟩:=hv
 obtain⟨da,dl,dc,rfl⟩:=hd
 have HH:=hide H
 clear H
 have HC:Hid (∀ W,Below w.heap.size w W->W.cell? ⟨P0,0,none⟩=some (.pointer (some ⟨gv,0,none⟩))/\W.cell? ⟨P1,0,none⟩=some (.slice da dl dc)):=fun W b=>⟨(b.cell (p:=⟨P0,0,none⟩) (World.block_lt_of_cell? _ _ c0)).trans c0,(b.cell (p:=⟨P1,0,none⟩) (World.block_lt_of_cell? _ _ c1)).trans c1⟩
 suffices H:Calls Tryz.prog 124 #[.slice ua ul uc,.slice va vl vc,.pointer (some ⟨P0,0,none⟩),.pointer (some ⟨P1,0,none⟩)] w (fun e w'=>∃ v,e=.returned v/\SA (.returned v) w') from H.mono (fun e w' ⟨v,he,h⟩=>he▸h)
 go_enter Tryz.func124,Tryz.ntmps124
 go_wp2_with fail
 with_reducible refine(ae HH _ (Below.refl _ _)).mono ?_
 rintro e w1 ⟨q,r,rfl,h⟩
 have H1:=hide h
 clear HH HC h
 go_wp2
 go_ret2
 exact⟨_,rfl,ae H1⟩
set_option maxRecDepth 100000 in
set_option maxHeartbeats 3200000 in
theorem vz(w:World)(gv gr gd gm gt gk ge g:Nat)(s l m:Int)(T:Tab)(u v:Value)(A C:Nat)
  (hE:aN w gv gr gd gm gt gk ge g s l m T) (h0:0<=s) (h1:s<=1152921504606846976) (h2:0<=l) (h3:l<=1000) (hu:dF w u A) (hv:dF w v C) (hC:0<C)
  (hs:(wl C:Int)<T.clamp.row.getD 3 0\/(wl (A/C):Int)<T.clamp.row.getD 3 0):
  Calls Tryz.prog 97 #[.pointer (some ⟨gv,0,none⟩),u,v] w (jt w gv gr gd gm gt gk ge g s l m T A C (nI A C) 0):=by
 obtain⟨ga,_,_,ca,rfl,_,_⟩:=id hu.is
 obtain⟨gb,_,_,cb,rfl,_,_⟩:=id hv.is
 have bE:=Boxed.new w 56 (.pointer (some ⟨gv,0,none⟩))
 have bB:=Boxed.new (w.alloc (.cells #[.pointer (some ⟨gv,0,none⟩)] 56)) 29 (.slice gb (wl C) cb)
 rw[World.size_alloc]at bB
 replace bE:=bE.alloc (.cells #[.slice gb (wl C) cb] 29)
 have b1:Below w.heap.size w ((w.alloc (.cells #[.pointer (some ⟨gv,0,none⟩)] 56)).alloc (.cells #[.slice gb (wl C) cb] 29)):=((Below.refl _ w).alloc (Nat.le_refl _) _).alloc (by simp) _
 obtain⟨W1,hW1⟩:∃ W1,(w.alloc (.cells #[.pointer (some ⟨gv,0,none⟩)] 56)).alloc (.cells #[.slice gb (wl C) cb] 29)=W1:=⟨_,rfl⟩
 rw[hW1]at bE bB b1
 obtain⟨P0,hP0⟩:∃ P0,w.heap.size=P0:=⟨_,rfl⟩
 rw[hP0]at bE bB
 have E1:=hE.next b1
 obtain⟨e0,e1,e2,e3,e4,e5,e6⟩:=E1.way
 have cE:=bE.cell
 have cB:=bB.cell
 have CS:=hide (fm W1 gv gr gd gm gt gk ge g s l m T _ _ A C _ true E1 (hu.next b1) (hv.next b1) hC rfl (by rw[eq_comm,decide_eq_true_iff];exact hs))
 have CL:Hid (∀ W,Below W1.heap.size W1 W->Calls Tryz.prog 71 #[.pointer (some ⟨gd,0,none⟩),.slice ga (wl A) ca,.slice gb (wl C) cb] W fun e w'=>∃ q r,e=.returned (.tuple #[q,r,.int .i64 0])/\jt w gv gr gd gm gt gk ge g s l m T A C (nI A C) 0 (.returned (.tuple #[q,r])) w'/\(w'.cell? ⟨P0,0,none⟩=some (.pointer (some ⟨gv,0,none⟩))/\w'.cell? ⟨P0+1,0,none⟩=some (.slice gb (wl C) cb)/\w'.cell? ⟨gv,0,none⟩=some (.pointer (some ⟨gr,0,none⟩))/\w'.cell? ⟨gr,0,none⟩=some (.pointer (some ⟨gd,0,none⟩)))):=fun W bW=>by
  have bw:=ag b1 bW
  refine(ky W gr gd gm gt gk ge g s l m T _ _ A C (hE.next bw).rcp h0 h1 h2 h3 (hu.next bw).inM (hv.next bw).inM hC).mono ?_
  rintro e w' ⟨q,r,gq,gx,k1,k2,k3,⟨k4,k5,k6⟩,k7,k8⟩
  have sz:=bw.size
  have E9:=(hE.next bw).kept k8 k7
  have lg:=hE.met.lt
  obtain⟨d0,d1,_⟩:=E9.way
  exact⟨q,r,k1,⟨q,r,gq,gx,_,m,rfl,k2,k3,⟨k4,by omega,by omega⟩,E9,by omega,Int.le_refl _,Int.le_refl _,by omega,(Out.of_below bw).trans k8⟩,k8.cell ((bW.cell (p:=⟨P0,0,none⟩) bE.lt).trans bE.cell) (fun(e:P0=g)=>by omega),k8.cell ((bW.cell (p:=⟨P0+1,0,none⟩) bB.lt).trans bB.cell) (fun(e:P0+1=g)=>by omega),d0,d1⟩
 have lE:=bE.lt
 have lB:=bB.lt
 have HC:Hid (∀ W,Below W1.heap.size W1 W->W.cell? ⟨P0,0,none⟩=some (.pointer (some ⟨gv,0,none⟩))/\W.cell? ⟨P0+1,0,none⟩=some (.slice gb (wl C) cb)/\W.cell? ⟨gv,0,none⟩=some (.pointer (some ⟨gr,0,none⟩))/\W.cell? ⟨gr,0,none⟩=some (.pointer (some ⟨gd,0,none⟩))):=fun W bW=>by
  obtain⟨d0,d1,_⟩:=(E1.next bW).way
  exact⟨(bW.cell (p:=⟨P0,0,none⟩) lE).trans cE,(bW.cell (p:=⟨P0+1,0,none⟩) lB).trans cB,d0,d1⟩
 generalize jt w gv gr gd gm gt gk ge g s l m T A C (nI A C) 0=SA at *
 generalize wl A=na at *
 generalize wl C=nb at *
 clear hE h0 h1 h2 h3 hu hv hC hs E1 bE bB b1 e2 e3 e4 e5 e6 lE lB
 suffices H:Calls Tryz.prog 97 #[.pointer (some ⟨gv,0,none⟩),.slice ga na ca,.slice gb nb cb] w (fun e w'=>∃ v,e=.returned v/\SA (.returned v) w') from H.mono (fun e w' ⟨v,he,h⟩=>he▸h)
 go_enter_defers Tryz.func97,Tryz.ntmps97
 go_wp2_with fail
 with_reducible refine(ae CS).mono ?_
 rintro e w2 ⟨rfl,b2⟩
 have bl:Below W1.heap.size W1 w2.drew:=b2.drew
 clear CS b2
 go_wp2_with fail
 (try simp only[List.append_eq,List.cons_append,List.nil_append])
 go_region_held3 (fun w'=>w'.cell? ⟨P0,0,none⟩=some (.pointer (some ⟨gv,0,none⟩))/\w'.cell? ⟨P0+1,0,none⟩=some (.slice gb nb cb)/\w'.cell? ⟨gv,0,none⟩=some (.pointer (some ⟨gr,0,none⟩))/\w'.cell? ⟨gr,0,none⟩=some (.pointer (some ⟨gd,0,none⟩))) (first|(exact ae HC _ bl)|(exact d9)|go_keep) (first
  |(with_reducible refine(ae CL _ bl).mono ?_;rintro e w3 ⟨q,r,rfl,h,d9⟩)
  |fail)
 have HX:=hide h
 clear CL h HC
 go_wp2
 refine⟨_,results_tmp2 rfl _ _ _,.tuple #[q,r],?_,ae HX⟩
 rfl
def Qg(P0 P1 gv gr gd gm gt gk ge g:Nat)(s l m:Int)(T:Tab)(d:Value)(C K M:Nat)(i:Nat)(W:World):Prop:=
 ∃ s' m',aN W gv gr gd gm gt gk ge g s' l m' T/\TB W/\dF W d C/\W.cell? ⟨P0,0,none⟩=some (.pointer (some ⟨gv,0,none⟩))/\W.cell? ⟨P1,0,none⟩=some d/\s<=s'/\s'<=s+((i*K:Nat):Int)/\m<=m'/\m'<=max m (l+(M:Int))
theorem sY{w0 W W':World}{d:Value}{C B:Nat}(h0:dF w0 d C)(hB:w0.heap.size<=B)(h:dF W d C)(o:Out (fun j=>B<=j) W W'):dF W' d C:=by
 obtain⟨ga,b,oo,cap,xs,rfl,hr,hc,hv,hl⟩:=h
 refine⟨ga,b,oo,cap,xs,rfl,o.rep hr (fun hp hb=>?_),hc,hv,hl⟩
 obtain⟨ga',b',oo',cap',ys,e,hr',_,_,_⟩:=h0
 injection e with e1 e2 e3
 have a1:=hr.head hp
 have a2:=hr'.head (by omega)
 rw[<-e1,a1]at a2
 injection a2 with a3
 injection a3 with a4
 have:=hr'.lt (by omega)
 have hb':B<=b:=hb
 omega
theorem yM(f:Nat)(IH:zO f)(w0:World)(B P0 P1 gv gr gd gm gt gk ge g:Nat)(s l m:Int)(T:Tab)(d:Value)(A C n h P:Nat)(h0:0<=s)(h1:s+((P*eF (f+1) n:Nat):Int)<=1143914305352105984)(h2:0<=l)(h3:l+(mF (n-h):Int)<=1000)
  (hn:n=wl C) (hh:h=n/2) (hn2:2<=n) (hf:n-h<=f) (b0:P0<B) (b1:P1<B) (b2:gv<B/\gr<B/\gd<B/\gm<B/\gt<B/\gk<B/\ge<B/\g<B) (hP0:P0≠g) (hP1:P1≠g) (hd0:dF w0 d C) (ht0:TB w0) (hwB:w0.heap.size<=B):
  NJ B g A C h 124 P #[] #[.pointer (some ⟨P0,0,none⟩),.pointer (some ⟨P1,0,none⟩)] (Qg P0 P1 gv gr gd gm gt gk ge g s l m T d C (eF (f+1) n) (mF (n-h)+cZ n)) where
 go:=fun args W=>by kernel_rfl
 next:=fun i W W' hS o=>by
  obtain⟨s',m',E,t,id,c0,c1,k1,k2,k3,k4⟩:=hS
  obtain⟨a0,a1,a2,a3,a4,a5,a6,a7⟩:=b2
  refine⟨s',m',⟨o.cell E.ptr (by show ¬B<=gv;omega),E.rcp.out o (by show ¬B<=gr;omega) (by show ¬B<=gd;omega) (by show ¬B<=gm;omega) (by show ¬B<=gt;omega) (by show ¬B<=gk;omega) (by show ¬B<=ge;omega) (by show ¬B<=g;omega),E.nm⟩,ht0.far t (o.mono fun k hk=>Nat.le_trans hwB hk),sY hd0 hwB id o,o.cell c0 (by show ¬B<=P0;omega),o.cell c1 (by show ¬B<=P1;omega),k1,k2,k3,k4⟩
 call:=fun i W u v x y hi hB hS hu hv hy _=>by
  obtain⟨s',m',E,t,id,c0,c1,k1,k2,k3,k4⟩:=hS
  have e:(#[]++#[u,v]++#[.pointer (some ⟨P0,0,none⟩),.pointer (some ⟨P1,0,none⟩)]:Array Value)=#[u,v,.pointer (some ⟨P0,0,none⟩),.pointer (some ⟨P1,0,none⟩)]:=by simp
  rw[e]
  have hK:i*eF (f+1) n+eF (f+1) n<=P*eF (f+1) n:=by
   have:=Nat.mul_le_mul_right (eF (f+1) n) (show i+1<=P from hi)
   rw[Nat.succ_mul]at this
   exact this
  have hi1:(i+1)*eF (f+1) n=i*eF (f+1) n+eF (f+1) n:=Nat.succ_mul _ _
  have hux:∃ a l c,u=.slice a l c:=by
   obtain⟨ga,_,_,cap,xs,rfl,_⟩:=hu
   exact⟨_,_,_,rfl⟩
  refine(B9 W P0 P1 gv u v d _ hux hv.inM.inW.is id.inM.inW.is c0 c1 (fun W2 bW=>?_))
  refine(Cb f IH W2 gv gr gd gm gt gk ge g s' l m' T u v d x y C n h (E.next bW) (t.next bW) (by omega) (by omega) h2 h3 (hu.next bW) (hv.next bW) (id.next bW) hy hn hh hn2 hf).mono ?_
  rintro e w' ⟨q,r,s2,m2,rfl,n1,n2,E2,j1,j2,j3,j4,o2⟩
  have sz:=bW.size
  have oW:Out (·=g) W w':=(Out.of_below bW).trans o2
  refine⟨q,r,rfl,q,r,rfl,n1.mono sz,n2.mono sz,⟨s2,m2,E2,E.rcp.tb oW t,E.rcp.inC oW id,oW.cell c0 hP0,oW.cell c1 hP1,by omega,?_,by omega,by omega⟩,oW⟩
  rw[hi1]
  omega
theorem aN.step{w w':World}{gv gr gd gm gt gk ge g:Nat}{s l m s' l' m':Int}{T:Tab}(h:aN w gv gr gd gm gt gk ge g s l m T)(M:Met w' g 0 s' l' m')(t:Touch g 0 3 w w'):aN w' gv gr gd gm gt gk ge g s' l' m' T:=
 ⟨t.grown.cell h.ptr (by simpa using h.nm),h.rcp.step M t,h.nm⟩
theorem aN.lts{w:World}{gv gr gd gm gt gk ge g:Nat}{s l m:Int}{T:Tab}(h:aN w gv gr gd gm gt gk ge g s l m T):gv<w.heap.size/\gr<w.heap.size/\gd<w.heap.size/\gm<w.heap.size/\gt<w.heap.size/\gk<w.heap.size/\ge<w.heap.size/\g<w.heap.size:=by
 obtain⟨e0,e1,e2,e3,e4,e5,e6⟩:=h.way
 exact⟨World.block_lt_of_cell? _ _ e0,World.block_lt_of_cell? _ _ e1,World.block_lt_of_cell? _ _ e2,World.block_lt_of_cell? _ _ e3,World.block_lt_of_cell? _ _ e4,World.block_lt_of_cell? _ _ e5,World.block_lt_of_cell? _ _ e6,h.met.lt⟩
set_option maxRecDepth 100000 in
set_option maxHeartbeats 3200000 in
theorem sX(f:Nat)(IH:zO f)(w:World)(gv gr gd gm gt gk ge g:Nat)(s l m:Int)(T:Tab)(u v:Value)(A C n h Q P:Nat)
  (hE:aN w gv gr gd gm gt gk ge g s l m T) (hT:TB w) (h0:0<=s) (h1:s+((P*eF (f+1) n:Nat):Int)<=1143914305352105984) (h2:0<=l) (h3:l+(mF n:Int)<=1000) (hu:dF w u A) (hv:dF w v C) (hC:0<C)
  (hn:n=wl C) (hh:h=n/2) (hn2:2<=n) (hf:n<=f+1) (hQ:Q=wl (A/C)) (hQ0:0<Q) (hP:P=cd Q h)
  (hs1:¬(wl C:Int)<T.clamp.row.getD 3 0) (hs2:¬(wl (A/C):Int)<T.clamp.row.getD 3 0):
  Calls Tryz.prog 97 #[.pointer (some ⟨gv,0,none⟩),u,v] w (jt w gv gr gd gm gt gk ge g s l m T A C (P*eF (f+1) n) (mF n+cZ n)):=by
 have wC:=hv.wlM
 rw[<-hn]at wC
 have hlh:=GV hn2 wC
 rw[<-hh]at hlh
 have hl16:=yN wC
 obtain⟨ga,_,_,ca,rfl,_,_⟩:=id hu.is
 obtain⟨gb,_,_,cb,rfl,_,_⟩:=id hv.is
 have bE:=Boxed.new w 56 (.pointer (some ⟨gv,0,none⟩))
 have bB:=Boxed.new (w.alloc (.cells #[.pointer (some ⟨gv,0,none⟩)] 56)) 29 (.slice gb (wl C) cb)
 rw[World.size_alloc]at bB
 replace bE:=bE.alloc (.cells #[.slice gb (wl C) cb] 29)
 have b1:Below w.heap.size w ((w.alloc (.cells #[.pointer (some ⟨gv,0,none⟩)] 56)).alloc (.cells #[.slice gb (wl C) cb] 29)):=((Below.refl _ w).alloc (Nat.le_refl _) _).alloc (by simp) _
 obtain⟨W1,hW1⟩:∃ W1,(w.alloc (.cells #[.pointer (some ⟨gv,0,none⟩)] 56)).alloc (.cells #[.slice gb (wl C) cb] 29)=W1:=⟨_,rfl⟩
 rw[hW1]at bE bB b1
 obtain⟨P0,hP0⟩:∃ P0,w.heap.size=P0:=⟨_,rfl⟩
 rw[hP0]at bE bB
 have lts:=hE.lts
 have E1:=hE.next b1
 obtain⟨e0,e1,e2,e3,e4,e5,e6⟩:=E1.way
 have cE:=bE.cell
 have cB:=bB.cell
 have CS:=hide (fm W1 gv gr gd gm gt gk ge g s l m T _ _ A C _ false E1 (hu.next b1) (hv.next b1) hC rfl (by rw[eq_comm,decide_eq_false_iff_not];omega))
 have CE:Hid (∀ W,Below W1.heap.size W1 W->Calls Tryz.prog 122 #[.pointer (some ⟨g,0,none⟩)] W fun e w'=>e=.returned (.int .i64 (l+1))/\aN w' gv gr gd gm gt gk ge g s (l+1) (max m (l+1)) T/\Out (·=g) w w'/\Boxed w' P0 56 (.pointer (some ⟨gv,0,none⟩))/\Boxed w' (P0+1) 29 (.slice gb (wl C) cb)):=fun W bW=>by
  have bw:=ag b1 bW
  have EW:=hE.next bw
  refine(dh (l+1) (max m (l+1)) EW.met rfl rfl (by omega) (by omega)).mono ?_
  rintro e w' ⟨k1,M,t⟩
  have o:=Out.of_grown t.grown
  exact⟨k1,EW.step M t,(Out.of_below bw).trans o,bV ((bW.block P0 bE.lt).trans bE) o (fun(e:P0=g)=>by omega),bV ((bW.block (P0+1) bB.lt).trans bB) o (fun(e:P0+1=g)=>by omega)⟩
 have lE:=bE.lt
 have lB:=bB.lt
 have HC:Hid (∀ W,Below W1.heap.size W1 W->W.cell? ⟨P0,0,none⟩=some (.pointer (some ⟨gv,0,none⟩))/\W.cell? ⟨gv,0,none⟩=some (.pointer (some ⟨gr,0,none⟩))/\W.cell? ⟨gr,0,none⟩=some (.pointer (some ⟨gd,0,none⟩))/\W.cell? ⟨gd,0,none⟩=some (.pointer (some ⟨gm,0,none⟩))/\W.cell? ⟨gm,0,none⟩=some (.pointer (some ⟨gt,0,none⟩))/\W.cell? ⟨gt,0,none⟩=some (.pointer (some ⟨gk,0,none⟩))/\W.cell? ⟨gk,0,none⟩=some (.pointer (some ⟨ge,0,none⟩))/\W.cell? ⟨ge,0,none⟩=some (.pointer (some ⟨g,0,none⟩))):=fun W bW=>by
  exact⟨(bW.cell (p:=⟨P0,0,none⟩) lE).trans cE,(E1.next bW).way⟩
 have CP:Hid (∀ W,aN W gv gr gd gm gt gk ge g s (l+1) (max m (l+1)) T->Out (·=g) w W->W.cell? ⟨P0,0,none⟩=some (.pointer (some ⟨gv,0,none⟩))->W.cell? ⟨P0+1,0,none⟩=some (.slice gb (wl C) cb)->Calls Tryz.prog 92 #[.slice ga (wl A) ca,.slice gb (wl C) cb,.int .i64 (h:Int),.func (.func 124) #[] #[.pointer (some ⟨P0,0,none⟩),.pointer (some ⟨P0+1,0,none⟩)]] W fun e w'=>∃ q r gq gx s' m',e=.returned (.tuple #[q,r])/\aS gq (gq+1) w' q (A/C)/\aS gx (gx+1) w' r (A%C)/\(gq≠gx/\w.heap.size<=gq/\w.heap.size<=gx)/\aN w' gv gr gd gm gt gk ge g s' (l+1) m' T/\s<=s'/\s'<=s+((P*eF (f+1) n:Nat):Int)/\m<=m'/\m'<=max m (l+((mF n+cZ n:Nat):Int))/\Out (·=g) w w'):=fun W EW oW d0 d1=>by
  have sz:=oW.size
  have l0:=World.block_lt_of_cell? _ _ d0
  have l1:=World.block_lt_of_cell? _ _ d1
  refine(pI W g _ _ A C h 124 Q P #[] #[.pointer (some ⟨P0,0,none⟩),.pointer (some ⟨P0+1,0,none⟩)] _ (hE.rcp.inC oW hu) (hE.rcp.inC oW hv) hC (by omega) (by omega) hQ hQ0 hP (by omega) (fun W' o'=>hE.rcp.inC (oW.trans o') hu)
   (yM f IH w W.heap.size P0 (P0+1) gv gr gd gm gt gk ge g s (l+1) (max m (l+1)) T _ A C n h P h0 h1 (by omega) (by omega) hn hh hn2 (by omega) l0 l1 EW.lts (by omega) (by omega) hv hT sz) ⟨s,_,EW,hE.rcp.tb oW hT,hE.rcp.inC oW hv,d0,d1,Int.le_refl _,by omega,Int.le_refl _,by omega⟩).mono ?_
  rintro e w' ⟨q,r,gq,gx,k1,k2,k3,⟨k4,k5,k6⟩,⟨s',m',j1,_,_,_,_,j2,j3,j4,j5⟩,k8⟩
  exact⟨q,r,gq,gx,s',m',k1,k2,k3,⟨k4,by omega,by omega⟩,j1,j2,j3,by omega,by omega,oW.trans k8⟩
 have HF:Hid (∀ W w' q r gq gx s' m',aS gq (gq+1) W q (A/C)->aS gx (gx+1) W r (A%C)->(gq≠gx/\w.heap.size<=gq/\w.heap.size<=gx)->aN W gv gr gd gm gt gk ge g s' (l+1) m' T->s<=s'->s'<=s+((P*eF (f+1) n:Nat):Int)->m<=m'->m'<=max m (l+((mF n+cZ n:Nat):Int))->Out (·=g) w W->Met w' g 0 s' l m'->Touch g 0 3 W w'->jt w gv gr gd gm gt gk ge g s l m T A C (P*eF (f+1) n) (mF n+cZ n) (.returned (.tuple #[q,r])) w'):=fun W w' q r gq gx s' m' a1 a2 a3 a4 a5 a6 a7 a8 a9 M t=>by
  have o:=Out.of_grown t.grown
  exact⟨q,r,gq,gx,s',m',rfl,a4.rcp.newB o a1,a4.rcp.newB o a2,a3,a4.step M t,a5,a6,a7,a8,a9.trans o⟩
 obtain⟨h2i,hh2⟩:∃ z:Int,z=(h:Int):=⟨_,rfl⟩
 have hdiv:((wl C:Nat):Int).tdiv 2=(h:Int):=by rw[hh,hn];rfl
 have hwh:IntKind.i64.wrap (h:Int)=(h:Int):=by rw[IntKind.wrap_i64];omega
 have hmf:∀(fn:Fn) (first cap:Array Value) (w:World),(Instr.makeFunc fn first cap).run Tryz.prog w=.ok (.func fn first cap) w:=fun _ _ _ _=>rfl
 have HL:=hide h2
 have HL3:=hide (show l<=1000 by omega)
 generalize jt w gv gr gd gm gt gk ge g s l m T A C (P*eF (f+1) n) (mF n+cZ n)=SA at *
 generalize wl A=na at *
 generalize wl C=nb at *
 clear hh2 h2i IH hE hT h0 h1 h2 h3 hu hv hC hn hh hf hQ hQ0 hP hs1 hs2 E1 bE bB b1 e0 e1 e2 e3 e4 e5 e6 lE lB hlh hl16 wC lts
 suffices H:Calls Tryz.prog 97 #[.pointer (some ⟨gv,0,none⟩),.slice ga na ca,.slice gb nb cb] w (fun e w'=>∃ v,e=.returned v/\SA (.returned v) w') from H.mono (fun e w' ⟨v,he,h⟩=>he▸h)
 go_enter_defers Tryz.func97,Tryz.ntmps97
 go_wp2_with fail
 with_reducible refine(ae CS).mono ?_
 rintro e w2 ⟨rfl,b2⟩
 obtain⟨cE,e0,e1,e2,e3,e4,e5,e6⟩:=ae HC _ b2
 clear CS
 go_wp2_with fail
 with_reducible refine(ae CE _ b2).mono ?_
 rintro e w3 ⟨rfl,E3,o3,B0,B1⟩
 obtain⟨e0,e1,e2,e3,e4,e5,e6⟩:=E3.way
 have cE:=B0.cell
 have cB:=B1.cell
 clear CE HC b2
 go_wp2_with fail
 with_reducible refine(ae CP _ E3 o3 cE cB).mono ?_
 rintro e w4 ⟨q,r,gq,gx,s4,m4,rfl,n1,n2,hg,E4,a1,a2,a3,a4,o4⟩
 have M4:=hide E4.met
 have HF:=hide (fun w'=>ae HF w4 w' q r gq gx s4 m4 n1 n2 hg E4 a1 a2 a3 a4 o4)
 obtain⟨qa,ql,qc,rfl⟩:=n1.toW.shape
 obtain⟨ra,rl,rc,rfl⟩:=n2.toW.shape
 clear CP n1 n2 hg E4 a1 a2 a3 a4 o4 E3 o3 B0 B1 e0 e1 e2 e3 e4 e5 e6 cE cB
 go_wp2
 refine leaves_cons (f:=123) (args:=#[.pointer (some ⟨g,0,none⟩)]) (by simp) (by simp[go_sem]) ?_
 refine(bm l .returning (ae M4) (by have:=ae HL;omega) (by have:=ae HL;omega) (by have:=ae HL3;omega)).mono ?_
 rintro e u' w9 ⟨rfl,rfl,M9,T9⟩
 refine⟨_,results_tmp2 rfl _ _ _,.tuple #[.slice qa ql qc,.slice ra rl rc],?_,ae HF _ M9 T9⟩
 rfl
theorem Oq{f A C:Nat}(hC:0<C):nI A C<=hF f (wl C) (wl (A/C)):=by
 have:=Nn (A:=A) hC
 unfold nI hF
 split
 ·omega
 ·have:(wl A-wl C+1)*(wl C+1)<=(wl (A/C)+1)*(wl C+1):=Nat.mul_le_mul_right _ (by omega)
  omega
theorem ue(T:Tab):4<=T.clamp.row.getD 3 0/\4<=T.clamp.row.getD 4 0:=by
 unfold Tab.clamp Tab.row
 simp[cl]
 omega
theorem yK:∀ f,zO f:=by
 intro f
 induction f with
 |zero=>
  intro w gv gr gd gm gt gk ge g s l m T u v A C hE hT h0 h1 h2 h3 hu hv hC hf
  have:=bO.1 (Nat.le_zero.1 hf)
  omega
 |succ f IH=>
  intro w gv gr gd gm gt gk ge g s l m T u v A C hE hT h0 h1 h2 h3 hu hv hC hf
  by_cases hs:(wl C:Int)<T.clamp.row.getD 3 0\/(wl (A/C):Int)<T.clamp.row.getD 3 0
  ·have hl:=Oq (f:=f+1) (A:=A) hC
   refine(vz w gv gr gd gm gt gk ge g s l m T u v A C hE h0 (by omega) h2 (by omega) hu hv hC hs).mono ?_
   rintro e w' ⟨q,r,gq,gx,s',m',k1,k2,k3,k4,k5,k6,k7,k8,k9,k0⟩
   exact⟨q,r,gq,gx,s',m',k1,k2,k3,k4,k5,k6,by omega,k8,by omega,k0⟩
  ·have ht:=(ue T).1
   have hs':¬(wl C:Int)<T.clamp.row.getD 3 0/\¬(wl (A/C):Int)<T.clamp.row.getD 3 0:=by omega
   have hP:cd (wl (A/C)) (wl C/2)*eF (f+1) (wl C)<=hF (f+1) (wl C) (wl (A/C)):=by unfold hF;omega
   refine(sX f IH w gv gr gd gm gt gk ge g s l m T u v A C (wl C) (wl C/2) (wl (A/C)) (cd (wl (A/C)) (wl C/2)) hE hT h0 (by omega) h2 h3 hu hv hC rfl rfl (by omega) hf rfl (by omega) rfl hs'.1 hs'.2).mono ?_
   rintro e w' ⟨q,r,gq,gx,s',m',k1,k2,k3,k4,k5,k6,k7,k8,k9,k0⟩
   exact⟨q,r,gq,gx,s',m',k1,k2,k3,k4,k5,k6,by omega,k8,k9,k0⟩
end Go.Proofs.YtgcnhfgpflncaaaGreatDoor
/- Halves,byReciprocal and DivMod of the landed package div. -/
namespace Go.Proofs.YtgcnhfgpflncaaaGreatDoor
open Go.RowKit
def dP(w:World)(gv gr gd gm gt gk ge g:Nat)(s l m:Int)(T:Tab)(A C K M:Nat)(e:Ending)(w':World):Prop:=
 ∃ q r gq gx s' m',e=.returned (.tuple #[q,r,.int .i64 0])/\aS gq (gq+1) w' q (A/C)/\aS gx (gx+1) w' r (A%C)/\(gq≠gx/\w.heap.size<=gq/\w.heap.size<=gx)/\aN w' gv gr gd gm gt gk ge g s' l m' T/\s<=s'/\s'<=s+(K:Int)/\m<=m'/\m'<=max m (l+(M:Int))/\Out (·=g) w w'
theorem rz(A C p:Nat):A*2^p/(C*2^p)=A/C/\A*2^p%(C*2^p)/2^p=A%C:=by
 have hp:=Nat.two_pow_pos p
 constructor
 ·exact Nat.mul_div_mul_right A C hp
 ·rw[Nat.mul_mod_mul_right,Nat.mul_div_cancel _ hp]
theorem O5{A p:Nat}(h:p<=63):wl (A*2^p)<=wl A+1:=by
 refine bQ _ _ ?_
 rw[Nat.pow_succ]
 have h2:(2:Nat)^p<=18446744073709551616:=Nat.le_trans (Nat.pow_le_pow_right (by omega) h) (by decide)
 exact Nat.mul_lt_mul_of_lt_of_le (dw (Nat.le_refl _)) h2 (by omega)
set_option maxRecDepth 100000 in
set_option maxHeartbeats 3200000 in
theorem GX(w:World)(gv gr gd gm gt gk ge g:Nat)(s l m:Int)(T:Tab)(u v:Value)(A C:Nat)
  (hE:aN w gv gr gd gm gt gk ge g s l m T) (hT:TB w) (h0:0<=s) (h1:s+(hF (wl C) (wl C) (wl (A/C)):Int)<=1143914305352105984) (h2:0<=l) (h3:l<=900) (hu:bh w u A) (hv:bh w v C) (hC:0<C) (hwA:wl A<=16383)
  (hs1:¬(wl C:Int)<T.clamp.row.getD 3 0) (hs2:¬(wl (A/C):Int)<T.clamp.row.getD 3 0):
  Calls Tryz.prog 73 #[.pointer (some ⟨gv,0,none⟩),u,v] w (dP w gv gr gd gm gt gk ge g s l m T A C (hF (wl C) (wl C) (wl (A/C))) (mF (wl C)+cZ (wl C))):=by
 obtain⟨a,ia,CA⟩:=fO hu
 obtain⟨d,jd,CD⟩:=fO hv
 have CA:=hide CA
 have CD:=hide CD
 have CS:=hide (fm w gv gr gd gm gt gk ge g s l m T a d A C _ false hE ia jd hC rfl (by rw[eq_comm,decide_eq_false_iff_not];omega))
 have wC:=jd.wlM
 have hl16:=yN wC
 have ht4:=(ue T).1
 obtain⟨ga,_,_,ca,rfl,_,_⟩:=id ia.is
 obtain⟨gb,b,o,cb,rfl,hcb,hgb⟩:=id jd.is
 obtain rfl:=hgb (by omega)
 obtain⟨ys,hyl,hyr,hyc,hyv⟩:=jd.head (by omega)
 obtain⟨m1,hm1⟩:∃ m1,wl C=m1+1:=⟨wl C-1,by omega⟩
 have htop:=hyc.2 (by omega)
 rw[hyl,hm1,Nat.add_sub_cancel]at htop
 have htl:=hyc.1 m1
 obtain⟨x,hx⟩:∃ x:Nat,x=ys.getD m1 0:=⟨_,rfl⟩
 rw[<-hx]at htop htl
 have HM:Hid (∀(p:Nat) B W r,p<=63->9223372036854775808<=x*2^p->x*2^p<18446744073709551616->ah B W r (C*2^p)->wl (C*2^p)=wl C):=fun p B W r hp a1 a2 nr=>by
  obtain⟨_,_,_,ds,_,_,cD,vD,_⟩:=nr.rep
  obtain⟨ldd,_⟩:=rC (m:=m1) hyc (by omega) cD hp (by rw[<-hx];exact a1) (by rw[<-hx];exact a2) (by rw[vD,hyv])
  have:=fa cD
  rw[vD]at this
  omega
 have HCx:Hid (∀ W,Below w.heap.size w W->W.cell? ⟨b,o+m1,none⟩=some (.int .u64 (x:Int))):=fun W bW=>by
  have:=(hyr.next bW).cell m1 (by omega)
  rw[<-hx]at this
  exact this
 have CZ:=hide (fun W=>yY (x:Int) W (by omega) (by omega))
 have C1:Hid (∀ W (p:Nat),Below w.heap.size w W->p<=63->Calls Tryz.prog 57 #[.slice ga (wl A) ca,.int .i64 (p:Int)] W fun e w'=>∃ r,e=.returned r/\ah w.heap.size w' r (A*2^p)/\Below w.heap.size w w'):=fun W p bW hp=>(ir W _ (p:Int) A p (by omega) (ia.next bW).inM.inW).mono fun e w' ⟨r,k1,k2,k3⟩=>⟨r,k1,k2.mono bW.size,ag bW k3⟩
 have C2:Hid (∀ W (p:Nat),Below w.heap.size w W->p<=63->Calls Tryz.prog 57 #[.slice (some ⟨b,o,none⟩) (wl C) cb,.int .i64 (p:Int)] W fun e w'=>∃ r,e=.returned r/\ah w.heap.size w' r (C*2^p)/\Below W.heap.size W w'):=fun W p bW hp=>(ir W _ (p:Int) C p (by omega) (jd.next bW).inM.inW).mono fun e w' ⟨r,k1,k2,k3⟩=>⟨r,k1,k2.mono bW.size,k3⟩
 have C3:Hid (∀ W (p:Nat) x y,Below w.heap.size w W->p<=63->ah w.heap.size W x (A*2^p)->ah w.heap.size W y (C*2^p)->wl (C*2^p)=wl C->Calls Tryz.prog 97 #[.pointer (some ⟨gv,0,none⟩),x,y] W fun e w'=>∃ q r gq gx s' m',e=.returned (.tuple #[q,r])/\aS gq (gq+1) w' q (A/C)/\aS gx (gx+1) w' r (A*2^p%(C*2^p))/\w.heap.size<=gq/\w.heap.size<=gx/\aN w' gv gr gd gm gt gk ge g s' l m' T/\s<=s'/\s'<=s+(hF (wl C) (wl C) (wl (A/C)):Int)/\m<=m'/\m'<=max m (l+((mF (wl C)+cZ (wl C):Nat):Int))/\Out (·=g) w w'):=fun W p x y bW hp nx ny hw=>by
  have e1:=(rz A C p).1
  have hCp:0<C*2^p:=Nat.mul_pos hC (Nat.two_pow_pos p)
  have wAp:=O5 (A:=A) hp
  have hh:=yK (wl C) W gv gr gd gm gt gk ge g s l m T x y (A*2^p) (C*2^p) (hE.next bW) (hT.next bW) h0 (by rw[e1,hw];exact h1) h2 (by rw[hw];omega) (nx.toC (by omega)) (ny.toC (by omega)) hCp (by omega)
  rw[e1,hw]at hh
  refine hh.mono ?_
  rintro e w' ⟨q,r,gq,gx,s',m',k1,k2,k3,⟨k4,k5,k6⟩,k7,k8,k9,k0,k11,k12⟩
  rw[e1]at k2
  have sz:=bW.size
  exact⟨q,r,gq,gx,s',m',k1,k2,k3,by omega,by omega,k7,k8,k9,k0,k11,(Out.of_below bW).trans k12⟩
 have C4:Hid (∀ W (p:Nat) q r gq gx (s' m':Int),p<=63->aS gq (gq+1) W q (A/C)->aS gx (gx+1) W r (A*2^p%(C*2^p))->w.heap.size<=gq->w.heap.size<=gx->aN W gv gr gd gm gt gk ge g s' l m' T->s<=s'->s'<=s+(hF (wl C) (wl C) (wl (A/C)):Int)->m<=m'->m'<=max m (l+((mF (wl C)+cZ (wl C):Nat):Int))->Out (·=g) w W->wl (C*2^p)=wl C->Calls Tryz.prog 36 #[r,.int .i64 (p:Int)] W fun e w'=>∃ r',e=.returned r'/\(∃ x y z,r'=.slice x y z)/\dP w gv gr gd gm gt gk ge g s l m T A C (hF (wl C) (wl C) (wl (A/C))) (mF (wl C)+cZ (wl C)) (.returned (.tuple #[q,r',.int .i64 0])) w'):=fun W p q r gq gx s' m' hp nq nr sq sx E k1 k2 k3 k4 oW hw=>by
  have hCp:0<C*2^p:=Nat.mul_pos hC (Nat.two_pow_pos p)
  have wr:=aH (Nat.le_of_lt (Nat.mod_lt (A*2^p) hCp))
  refine(gi W r (p:Int) _ p (by omega) (nr.toW.wlW (by omega))).mono ?_
  rintro e w' ⟨r',j1,j2,j3⟩
  rw[(rz A C p).2]at j2
  have hlt:=oW.size
  obtain⟨gy,hy,ny⟩:=cF j2
  obtain⟨gz,hz1,hz2,nz⟩:=cC (X:=gy) (nq.toW.mono sq) hy (by omega)
  exact⟨r',j1,j2.shape,q,r',gz,gy,s',m',rfl,nz.next j3,ny,⟨hz1,by omega,by omega⟩,E.next j3,k1,k2,k3,k4,oW.next j3⟩
 have hnb:¬(wl C:Int)=0:=by omega
 obtain⟨gu,lu,cu,rfl⟩:=hu.inW.is
 obtain⟨gw,lw,cw,rfl⟩:=hv.inW.is
 have i1:((wl C:Nat):Int)-1=(m1:Int):=by omega
 have i2:IntKind.i64.wrap (m1:Int)=(m1:Int):=by rw[IntKind.wrap_i64];omega
 have i3:(m1:Int)<((wl C:Nat):Int):=by omega
 have i4:0<=(m1:Int):=by omega
 generalize dP w gv gr gd gm gt gk ge g s l m T A C (hF (wl C) (wl C) (wl (A/C))) (mF (wl C)+cZ (wl C))=SA at *
 generalize (hF (wl C) (wl C) (wl (A/C)):Int)=KF at *
 generalize max m (l+((mF (wl C)+cZ (wl C):Nat):Int))=KM at *
 generalize wl A=na at *
 generalize hnbe:wl C=nb at *
 clear hu hv ia jd hE hT h0 h1 h2 h3 hwA hs1 hs2 hl16 ht4 hyl hyr hyc hyv hm1 hx htop htl wC hcb hnbe
 suffices H:Calls Tryz.prog 73 #[.pointer (some ⟨gv,0,none⟩),.slice gu lu cu,.slice gw lw cw] w (fun e w'=>∃ v,e=.returned v/\SA (.returned v) w') from H.mono (fun e w' ⟨v,he,h⟩=>he▸h)
 go_enter Tryz.func73,Tryz.ntmps73
 go_wp2_with fail
 with_reducible refine(ae CA).mono ?_
 rintro e w1 ⟨rfl,hw⟩
 obtain rfl:=hw.symm
 clear hw CA
 go_wp2_with fail
 with_reducible refine(ae CD).mono ?_
 rintro e w1 ⟨rfl,hw⟩
 obtain rfl:=hw.symm
 clear hw CD
 go_wp2_with fail
 with_reducible refine(ae CS).mono ?_
 rintro e w1 ⟨rfl,b1⟩
 have cx:=ae HCx _ b1
 clear CS HCx
 go_wp2_with fail
 with_reducible refine(ae CZ _).mono ?_
 rintro e w2 ⟨p,rfl,hp,hs1,hs2,hw⟩
 obtain rfl:=hw.symm
 have HS1:=hide (show 9223372036854775808<=x*2^p by simpa using hs1)
 have HS2:=hide (show x*2^p<18446744073709551616 by simpa using hs2)
 clear hw CZ hs1 hs2
 go_wp2_with fail
 with_reducible refine(ae C1 _ _ b1 hp).mono ?_
 rintro e w3 ⟨xa,rfl,n3,b3⟩
 have N3:=hide n3
 obtain⟨xg,xl,xc,rfl⟩:=n3.shape
 clear C1 n3 b1 cx
 go_wp2_with fail
 with_reducible refine(ae C2 _ _ b3 hp).mono ?_
 rintro e w4 ⟨ya,rfl,n4,b4⟩
 have HW:=ae HM p _ _ _ hp (ae HS1) (ae HS2) n4
 have HW':=hide HW
 have C3:=hide (ae C3 _ p _ _ (ag b3 b4) hp ((ae N3).next b4) n4 HW)
 obtain⟨yg,yl,yc,rfl⟩:=n4.shape
 clear C2 n4 b3 b4 N3 HW HM HS1 HS2
 go_wp2_with fail
 with_reducible refine(ae C3).mono ?_
 rintro e w5 ⟨q,r,gq,gx,s5,m5,rfl,n1,n2,a1,a2,E5,a3,a4,a5,a6,o5⟩
 have C4:=hide (ae C4 _ p q r gq gx s5 m5 hp n1 n2 a1 a2 E5 a3 a4 a5 a6 o5 (ae HW'))
 obtain⟨qa,ql,qc,rfl⟩:=n1.toW.shape
 obtain⟨ra,rl,rc,rfl⟩:=n2.toW.shape
 clear C3 n1 n2 a1 a2 E5 a3 a4 a5 a6 o5 HW'
 go_wp2_with fail
 with_reducible refine(ae C4).mono ?_
 rintro e w6 ⟨r',rfl,⟨_,_,_,rfl⟩,h⟩
 have HX:=hide h
 clear C4 h
 go_wp2
 go_ret3
 exact⟨_,rfl,ae HX⟩
def Qh(P0 P1 P2 P3 gv gr gd gm gt gk ge g:Nat)(s l m:Int)(T:Tab)(d v:Value)(C V n K M:Nat)(i:Nat)(W:World):Prop:=
 ∃ s' m',aN W gv gr gd gm gt gk ge g s' l m' T/\TB W/\dF W d C/\dF W v V/\W.cell? ⟨P0,0,none⟩=some (.pointer (some ⟨gv,0,none⟩))/\W.cell? ⟨P1,0,none⟩=some d/\W.cell? ⟨P2,0,none⟩=some v/\W.cell? ⟨P3,0,none⟩=some (.int .i64 (n:Int))/\s<=s'/\s'<=s+((i*K:Nat):Int)/\m<=m'/\m'<=max m (l+(M:Int))
theorem F5(w:World)(u x:Value)(X Y k:Nat)(hu:oH w u X k)(hx:dF w x Y)(hk:k+wl Y<=16384):
  Calls Tryz.prog 95 #[.slice (some ⟨w.heap.size,0,none⟩) 2 2] (w.alloc (.cells #[u,x] 29)) fun e w'=>∃ r,e=.returned r/\bh w' r (X+18446744073709551616^k*Y)/\Below w.heap.size w w':=by
 obtain⟨ga,b,o,cap,xs,rfl,hl,hr,hd,hv⟩:=hu
 obtain⟨gb,b',o',cap',ys,rfl,hr',hc',hv',_⟩:=hx
 have e:=fa hc'
 rw[hv']at e
 have bl:Below w.heap.size w (w.alloc (.cells #[.slice ga k cap,.slice gb ys.length cap'] 29)):=(Below.refl _ _).alloc (Nat.le_refl _) _
 have kk:=heap_alloc_new w (.cells #[.slice ga k cap,.slice gb ys.length cap'] 29)
 refine(oV (w.alloc (.cells #[.slice ga k cap,.slice gb ys.length cap'] 29)) w.heap.size ga gb b o cap k b' o' cap' ys.length xs ys hl rfl (hr.next bl) (hr'.next bl) (by omega) (by omega) (cell_of_row _ w.heap.size 0 _ _ (0,0) kk) (cell_of_row _ w.heap.size 1 _ _ (0,0) kk)).mono ?_
 rintro e w' ⟨r,rfl,ho,hb⟩
 obtain⟨gr,br,cr,rfl,hrl,hRr,_⟩:=fp ho
 exact⟨_,rfl,⟨gr,br,0,cr,xs++ys,by rw[hrl],hRr,fu hd hc'.1,by rw[ck,hl,hv,hv'],by omega⟩,ag bl hb⟩
set_option maxRecDepth 100000 in
set_option maxHeartbeats 3200000 in
theorem Ea(w:World)(P0 P1 P2 P3 gv gr g:Nat)(hg:P0≠g/\P1≠g/\P2≠g/\P3≠g/\gv≠g)(u x d v:Value)(X Y k n:Nat)(SA:Ending->World->Prop)(hu:oH w u X k)(hk:k+wl Y<=16384)(hx:dF w x Y)(hd:∃ a l c,d=.slice a l c)(hv:∃ a l c,v=.slice a l c)
  (c0:w.cell? ⟨P0,0,none⟩=some (.pointer (some ⟨gv,0,none⟩))) (c1:w.cell? ⟨P1,0,none⟩=some d) (c2:w.cell? ⟨P2,0,none⟩=some v) (c3:w.cell? ⟨P3,0,none⟩=some (.int .i64 (n:Int))) (c4:w.cell? ⟨gv,0,none⟩=some (.pointer (some ⟨gr,0,none⟩)))
  (H:∀ W r,Below w.heap.size w W->bh W r (X+18446744073709551616^k*Y)->Calls Tryz.prog 94 #[.pointer (some ⟨gr,0,none⟩),r,d,v,.int .i64 (n:Int)] W fun e w'=>∃ q r,e=.returned (.tuple #[q,r,.int .i64 0])/\(∃ x y z,q=.slice x y z)/\(∃ x y z,r=.slice x y z)/\SA (.returned (.tuple #[q,r])) w'/\Out (·=g) w w'):
  Calls Tryz.prog 93 #[u,x,.pointer (some ⟨P0,0,none⟩),.pointer (some ⟨P1,0,none⟩),.pointer (some ⟨P2,0,none⟩),.pointer (some ⟨P3,0,none⟩)] w SA:=by
 obtain⟨da,dl,dc,rfl⟩:=hd
 obtain⟨va,vl,vc,rfl⟩:=hv
 have HH:=hide H
 clear H
 have HC:Hid (∀ W,Below w.heap.size w W->W.cell? ⟨P0,0,none⟩=some (.pointer (some ⟨gv,0,none⟩))/\W.cell? ⟨P1,0,none⟩=some (.slice da dl dc)/\W.cell? ⟨P2,0,none⟩=some (.slice va vl vc)/\W.cell? ⟨P3,0,none⟩=some (.int .i64 (n:Int))/\W.cell? ⟨gv,0,none⟩=some (.pointer (some ⟨gr,0,none⟩))):=fun W b=>⟨(b.cell (p:=⟨P0,0,none⟩) (World.block_lt_of_cell? _ _ c0)).trans c0,(b.cell (p:=⟨P1,0,none⟩) (World.block_lt_of_cell? _ _ c1)).trans c1,(b.cell (p:=⟨P2,0,none⟩) (World.block_lt_of_cell? _ _ c2)).trans c2,(b.cell (p:=⟨P3,0,none⟩) (World.block_lt_of_cell? _ _ c3)).trans c3,(b.cell (p:=⟨gv,0,none⟩) (World.block_lt_of_cell? _ _ c4)).trans c4⟩
 have HO:Hid (∀ W,Out (·=g) w W->W.cell? ⟨P0,0,none⟩=some (.pointer (some ⟨gv,0,none⟩))/\W.cell? ⟨P1,0,none⟩=some (.slice da dl dc)/\W.cell? ⟨P2,0,none⟩=some (.slice va vl vc)/\W.cell? ⟨P3,0,none⟩=some (.int .i64 (n:Int))/\W.cell? ⟨gv,0,none⟩=some (.pointer (some ⟨gr,0,none⟩))):=fun W b=>⟨b.cell c0 hg.1,b.cell c1 hg.2.1,b.cell c2 hg.2.2.1,b.cell c3 hg.2.2.2.1,b.cell c4 hg.2.2.2.2⟩
 have CC:Hid (Calls Tryz.prog 95 #[.slice (some ⟨w.heap.size,0,none⟩) 2 2] (w.alloc (.cells #[u,x] 29)).drew fun e w'=>∃ r,e=.returned r/\bh w' r (X+18446744073709551616^k*Y)/\Below w.heap.size w w'):=by
  show Calls Tryz.prog 95 #[.slice (some ⟨w.drew.heap.size,0,none⟩) 2 2] (w.drew.alloc (.cells #[u,x] 29)) _
  exact(F5 w.drew u x X Y k (hu.next ((Below.refl _ w).drew)) (hx.next ((Below.refl _ w).drew)) hk).mono fun e w' ⟨r,k1,k2,k3⟩=>⟨r,k1,k2,ag ((Below.refl _ w).drew) k3⟩
 obtain⟨xa,_,_,xc,rfl,_,_⟩:=hx.is
 obtain⟨ua,_,_,uc,_,rfl,_⟩:=hu
 have bl:Below w.heap.size w w.drew:=(Below.refl _ _).drew
 have bA:Below w.heap.size w (w.alloc (.cells #[.slice ua k uc,.slice xa (wl Y) xc] 29)).drew:=((Below.refl _ w).alloc (Nat.le_refl _) _).drew
 generalize wl Y=ly at *
 clear c0 c1 c2 c3 c4 hx
 suffices H:Calls Tryz.prog 93 #[.slice ua k uc,.slice xa ly xc,.pointer (some ⟨P0,0,none⟩),.pointer (some ⟨P1,0,none⟩),.pointer (some ⟨P2,0,none⟩),.pointer (some ⟨P3,0,none⟩)] w (fun e w'=>∃ v,e=.returned v/\SA (.returned v) w') from H.mono (fun e w' ⟨v,he,h⟩=>he▸h)
 go_enter Tryz.func93,Tryz.ntmps93
 go_wp2_with fail
 (try simp only[List.append_eq,List.cons_append,List.nil_append])
 go_region_held3 (fun w'=>w'.cell? ⟨P0,0,none⟩=some (.pointer (some ⟨gv,0,none⟩))/\w'.cell? ⟨P1,0,none⟩=some (.slice da dl dc)/\w'.cell? ⟨P2,0,none⟩=some (.slice va vl vc)/\w'.cell? ⟨P3,0,none⟩=some (.int .i64 (n:Int))/\w'.cell? ⟨gv,0,none⟩=some (.pointer (some ⟨gr,0,none⟩))) (first|(exact ae HC _ bl)|(exact ae HC _ bA)|(exact ae HO _ o3)|go_keep) (first
  |(with_reducible refine(ae CC).mono ?_;rintro e w2 ⟨r2,rfl,n2,bl⟩)
  |(with_reducible refine(ae HH _ _ bl n2).mono ?_;rintro e w3 ⟨q,r,rfl,⟨_,_,_,rfl⟩,⟨_,_,_,rfl⟩,h3,o3⟩)
  |fail)
 have HX:=hide h3
 clear CC HH HC HO h3 bl bA o3 n2
 go_wp2
 go_ret2
 exact⟨_,rfl,ae HX⟩
theorem Bt(w0:World)(B P0 P1 P2 P3 gv gr gd gm gt gk ge g:Nat)(s l m:Int)(T:Tab)(d v:Value)(A C b n k P N:Nat)(h0:0<=s)(h1:s+((P*sO n b C:Nat):Int)<=1143914305352105984)(h2:0<=l)(h3:l<=1000)(b0:2^b<=C)(b1:C<2^(b+1))(hn:n<=1048575)(hkL:k+wl C<=16384)
  (hX:∀ X,X<=A->X<C*18446744073709551616^k->X<=2^n) (hN:(n-b+64)/64<=N) (hN1:wl C<=N) (hN2:N<=16384) (bd:P0<B/\P1<B/\P2<B/\P3<B) (b2:gv<B/\gr<B/\gd<B/\gm<B/\gt<B/\gk<B/\ge<B/\g<B) (hg:P0≠g/\P1≠g/\P2≠g/\P3≠g) (hd0:dF w0 d C) (hv0:dF w0 v (2^n/C)) (ht0:TB w0) (hwB:w0.heap.size<=B):
  NJ B g A C k 93 P #[] #[.pointer (some ⟨P0,0,none⟩),.pointer (some ⟨P1,0,none⟩),.pointer (some ⟨P2,0,none⟩),.pointer (some ⟨P3,0,none⟩)] (Qh P0 P1 P2 P3 gv gr gd gm gt gk ge g s l m T d v C (2^n/C) n (sO n b C) (cZ N)) where
 go:=fun args W=>by kernel_rfl
 next:=fun i W W' hS o=>by
  obtain⟨s',m',E,t,jd,jv,c0,c1,c2,c3,k1,k2,k3,k4⟩:=hS
  obtain⟨a0,a1,a2,a3,a4,a5,a6,a7⟩:=b2
  obtain⟨d0,d1,d2,d3⟩:=bd
  refine⟨s',m',⟨o.cell E.ptr (by show ¬B<=gv;omega),E.rcp.out o (by show ¬B<=gr;omega) (by show ¬B<=gd;omega) (by show ¬B<=gm;omega) (by show ¬B<=gt;omega) (by show ¬B<=gk;omega) (by show ¬B<=ge;omega) (by show ¬B<=g;omega),E.nm⟩,ht0.far t (o.mono fun k hk=>Nat.le_trans hwB hk),sY hd0 hwB jd o,sY hv0 hwB jv o,o.cell c0 (by show ¬B<=P0;omega),o.cell c1 (by show ¬B<=P1;omega),o.cell c2 (by show ¬B<=P2;omega),o.cell c3 (by show ¬B<=P3;omega),k1,k2,k3,k4⟩
 call:=fun i W u x X Y hi hB hS hu hx hY hXA=>by
  obtain⟨s',m',E,t,jd,jv,c0,c1,c2,c3,k1,k2,k3,k4⟩:=hS
  have e:(#[]++#[u,x]++#[.pointer (some ⟨P0,0,none⟩),.pointer (some ⟨P1,0,none⟩),.pointer (some ⟨P2,0,none⟩),.pointer (some ⟨P3,0,none⟩)]:Array Value)=#[u,x,.pointer (some ⟨P0,0,none⟩),.pointer (some ⟨P1,0,none⟩),.pointer (some ⟨P2,0,none⟩),.pointer (some ⟨P3,0,none⟩)]:=by simp
  rw[e]
  have hK:i*sO n b C+sO n b C<=P*sO n b C:=by
   have:=Nat.mul_le_mul_right (sO n b C) (show i+1<=P from hi)
   rw[Nat.succ_mul]at this
   exact this
  have hi1:(i+1)*sO n b C=i*sO n b C+sO n b C:=Nat.succ_mul _ _
  have wY:=aH (Nat.le_of_lt hY)
  have hXl:X<18446744073709551616^k:=by
   obtain⟨_,_,_,_,xs,_,e1,_,e2,e3⟩:=hu
   rw[<-e3, <-e1]
   exact ak e2
  have hXC:Y*18446744073709551616^k+X<C*18446744073709551616^k:=by
   have:=Nat.mul_le_mul_right (18446744073709551616^k) (show Y+1<=C from hY)
   rw[Nat.succ_mul]at this
   omega
  have hx2:=hX _ hXA hXC
  have eX:X+18446744073709551616^k*Y=Y*18446744073709551616^k+X:=by rw[Nat.mul_comm];omega
  refine Ea W P0 P1 P2 P3 gv gr g ⟨hg.1,hg.2.1,hg.2.2.1,hg.2.2.2,E.nm⟩ u x d v X Y k n _ hu (by omega) hx jd.inM.inW.is jv.inM.inW.is c0 c1 c2 c3 E.ptr (fun W2 r bW hr=>?_)
  rw[eX]at hr
  have E2:=E.next bW
  refine(NV W2 gr gd gm gt gk ge g s' l m' T r d v _ C b n N E2.rcp (t.next bW) (by omega) (by omega) h2 h3 hr (jd.next bW).inM (jv.next bW).inM b0 b1 hn hx2 hN hN1 hN2).mono ?_
  rintro e w' ⟨q,r,gq,gx,s2,m2,rfl,n1,n2,⟨_,g1,g2⟩,R2,j1,j2,j3,j4,o2⟩
  have sz:=bW.size
  have oW:Out (·=g) W w':=(Out.of_below bW).trans o2
  refine⟨q,r,rfl,n1.toW.shape,n2.toW.shape,⟨q,r,rfl,n1.toW.mono (by omega),n2.toW.mono (by omega),⟨s2,m2,E2.kept o2 R2,E.rcp.tb oW t,E.rcp.inC oW jd,E.rcp.inC oW jv,oW.cell c0 hg.1,oW.cell c1 hg.2.1,oW.cell c2 hg.2.2.1,oW.cell c3 hg.2.2.2,by omega,?_,by omega,by omega⟩,oW⟩,oW⟩
  rw[hi1]
  omega
end Go.Proofs.YtgcnhfgpflncaaaGreatDoor
/- byReciprocal of the landed package div. -/
namespace Go.Proofs.YtgcnhfgpflncaaaGreatDoor
open Go.RowKit
def J1(n b C P:Nat):Nat:=OK n b C+P*sO n b C
set_option maxRecDepth 100000 in
set_option maxHeartbeats 3200000 in
theorem Br(w:World)(gv gr gd gm gt gk ge g:Nat)(s l m:Int)(T:Tab)(u v:Value)(A C a b n k Q P:Nat)
  (hE:aN w gv gr gd gm gt gk ge g s l m T) (hT:TB w) (h0:0<=s) (h1:s+(J1 n b C P:Int)<=1143914305352105984) (h2:0<=l) (h3:l<=1000) (hu:dF w u A) (hv:dF w v C) (hC:0<C) (hwA:wl A<=16000)
  (a0:2^a<=A) (a1:A<2^(a+1)) (b0:2^b<=C) (b1:C<2^(b+1)) (hQ:Q=wl (A/C)) (hQ2:2<=Q) (hk:k=min (wl C) Q) (hn:n=min (a+1) (b+1+64*k)) (hP:P=cd Q k):
  Calls Tryz.prog 72 #[.pointer (some ⟨gv,0,none⟩),u,v] w (dP w gv gr gd gm gt gk ge g s l m T A C (J1 n b C P) (cZ (wl A))):=by
 have wC:=hv.wlM
 have wC0:0<wl C:=by have:=bO (n:=C);omega
 have hqle:=AA (A:=A) hC
 have hnn:¬wl A<wl C:=fun h=>by have:=ku h;omega
 rw[<-hQ]at hqle
 have a64:a+1<=64*wl A:=by
  obtain⟨a',q0,q1,q2⟩:=iQ (n:=A) (p:=wl A) (Nat.lt_of_lt_of_le (Nat.two_pow_pos _) a0) (Nat.le_refl _)
  have:a<a'+1:=(Nat.pow_lt_pow_iff_right (a:=2) (by omega)).1 (by omega)
  omega
 have b64:b+1<=64*wl C:=by
  obtain⟨b',q0,q1,q2⟩:=iQ (n:=C) (p:=wl C) hC (Nat.le_refl _)
  have:b<b'+1:=(Nat.pow_lt_pow_iff_right (a:=2) (by omega)).1 (by omega)
  omega
 obtain⟨ga,_,_,ca,rfl, -, -⟩:=id hu.is
 obtain⟨gb,_,_,cb,rfl, -, -⟩:=id hv.is
 have bE:=Boxed.new w 56 (.pointer (some ⟨gv,0,none⟩))
 have bB:=Boxed.new (w.alloc (.cells #[.pointer (some ⟨gv,0,none⟩)] 56)) 29 (.slice gb (wl C) cb)
 rw[World.size_alloc]at bB
 replace bE:=bE.alloc (.cells #[.slice gb (wl C) cb] 29)
 have bW1:Below w.heap.size w ((w.alloc (.cells #[.pointer (some ⟨gv,0,none⟩)] 56)).alloc (.cells #[.slice gb (wl C) cb] 29)):=((Below.refl _ w).alloc (Nat.le_refl _) _).alloc (by simp) _
 obtain⟨W1,hW1⟩:∃ W1,(w.alloc (.cells #[.pointer (some ⟨gv,0,none⟩)] 56)).alloc (.cells #[.slice gb (wl C) cb] 29)=W1:=⟨_,rfl⟩
 rw[hW1]at bE bB bW1
 obtain⟨P0,hP0⟩:∃ P0,w.heap.size=P0:=⟨_,rfl⟩
 rw[hP0]at bE bB
 have lts:=hE.lts
 have E1:=hE.next bW1
 have HE1:=hide E1
 have cE:=bE.cell
 have cB:=bB.cell
 have lE:=bE.lt
 have lB:=bB.lt
 have CQ:Hid (∀ W,Below W1.heap.size W1 W->Calls Tryz.prog 87 #[.slice ga (wl A) ca,.slice gb (wl C) cb] W fun e w'=>e=.returned (.int .i64 (Q:Int))/\Below W1.heap.size W1 w'):=fun W bW=>by
  rw[hQ]
  exact(jc (hu.next (ag bW1 bW)) (hv.next (ag bW1 bW)) hC).mono fun e w' ⟨k1,k2⟩=>⟨k1,ag bW k2⟩
 have CA:Hid (∀ W,Below W1.heap.size W1 W->Calls Tryz.prog 35 #[.slice ga (wl A) ca] W fun e w'=>e=.returned (.int .i64 ((a+1:Nat):Int))/\w'=W):=fun W bW=>dj (hu.next (ag bW1 bW)).inM.inW a0 a1
 have CB:Hid (∀ W,Below W1.heap.size W1 W->Calls Tryz.prog 35 #[.slice gb (wl C) cb] W fun e w'=>e=.returned (.int .i64 ((b+1:Nat):Int))/\w'=W):=fun W bW=>dj (hv.next (ag bW1 bW)).inM.inW b0 b1
 have HC:Hid (∀ W,Below W1.heap.size W1 W->W.cell? ⟨P0,0,none⟩=some (.pointer (some ⟨gv,0,none⟩))/\W.cell? ⟨P0+1,0,none⟩=some (.slice gb (wl C) cb)/\W.cell? ⟨gv,0,none⟩=some (.pointer (some ⟨gr,0,none⟩))):=fun W bW=>by
  exact⟨(bW.cell (p:=⟨P0,0,none⟩) lE).trans cE,(bW.cell (p:=⟨P0+1,0,none⟩) lB).trans cB,(E1.next bW).ptr⟩
 have hkw:k<=wl C/\k<=Q/\2<=k\/wl C<2:=by omega
 have hnb64:n<=64*wl A:=by omega
 have hn0:n-b<=64*k+1:=by omega
 have hV:wl (2^n/C)<=wl A:=by
  have:=wJ (n:=n) b0
  omega
 have CR:Hid (∀ W,Below W1.heap.size W1 W->Calls Tryz.prog 91 #[.pointer (some ⟨gr,0,none⟩),.slice gb (wl C) cb,.int .i64 (n:Int)] W fun e w'=>∃ va vl vc s' m',e=.returned (.tuple #[.slice va vl vc,.int .i64 0])/\ah W.heap.size w' (.slice va vl vc) (2^n/C)/\aN w' gv gr gd gm gt gk ge g s' l m' T/\s<=s'/\s'<=s+(OK n b C:Int)/\m<=m'/\m'<=max m (l+(cZ (wl A):Int))/\Out (·=g) W w'):=fun W bW=>by
  have bw:=ag bW1 bW
  have EW:=hE.next bw
  refine(Ec W gr gd gm gt gk ge g s l m T _ C b n (wl A) EW.rcp (hT.next bw) h0 (by have:=h1;unfold J1 at this;omega) h2 h3 (hv.next bw).inM b0 b1 (by omega) (by omega) (by omega) (by omega)).mono ?_
  rintro e w' ⟨r,gq,s',m',k1,k2,k3,k4,k5,k6,k7,k8,k9⟩
  obtain⟨va,vl,vc,rfl⟩:=k2.toW.shape
  exact⟨va,vl,vc,s',m',k1,k2.toW.mono k3,EW.kept k9 k4,k5,k6,k7,k8,k9⟩
 have hX:∀ X,X<=A->X<C*18446744073709551616^k->X<=2^n:=fun X x1 x2=>by
  have hB:18446744073709551616^k=2^(64*k):=by rw[Nat.pow_mul]
  have x3:X<2^(b+1+64*k):=by
   rw[Nat.pow_add, <-hB]
   exact Nat.lt_trans x2 (Nat.mul_lt_mul_of_pos_right b1 (eI k))
  have x4:X<2^(a+1):=Nat.lt_of_le_of_lt x1 a1
  rcases Nat.le_total (a+1) (b+1+64*k)with h|h
  ·rw[hn,Nat.min_eq_left h];omega
  ·rw[hn,Nat.min_eq_right h];omega
 have HP2:Hid (∀ W P2 P3 vv s1 m1,aN W gv gr gd gm gt gk ge g s1 l m1 T->s<=s1->s1<=s+(OK n b C:Int)->m<=m1->m1<=max m (l+(cZ (wl A):Int))->ah w.heap.size W vv (2^n/C)->Out (·=g) w W->P0+1<P2->P0+1<P3->W.cell? ⟨P0,0,none⟩=some (.pointer (some ⟨gv,0,none⟩))->W.cell? ⟨P0+1,0,none⟩=some (.slice gb (wl C) cb)->W.cell? ⟨P2,0,none⟩=some (.int .i64 (n:Int))->W.cell? ⟨P3,0,none⟩=some vv->
   Calls Tryz.prog 92 #[.slice ga (wl A) ca,.slice gb (wl C) cb,.int .i64 (k:Int),.func (.func 93) #[] #[.pointer (some ⟨P0,0,none⟩),.pointer (some ⟨P0+1,0,none⟩),.pointer (some ⟨P3,0,none⟩),.pointer (some ⟨P2,0,none⟩)]] W fun e w'=>∃ q r,e=.returned (.tuple #[q,r])/\(∃ x y z,q=.slice x y z)/\(∃ x y z,r=.slice x y z)/\dP w gv gr gd gm gt gk ge g s l m T A C (J1 n b C P) (cZ (wl A)) (.returned (.tuple #[q,r,.int .i64 0])) w'):=fun W P2 P3 vv s1 m1 EW z1 z2 z3 z4 nv oW p2 p3 d0 d1 d2 d3=>by
  have sz:=oW.size
  have l0:=World.block_lt_of_cell? _ _ d0
  have l1:=World.block_lt_of_cell? _ _ d1
  have l2:=World.block_lt_of_cell? _ _ d2
  have l3:=World.block_lt_of_cell? _ _ d3
  have hbr:=h1
  unfold J1 at hbr
  have hTW:=hE.rcp.tb oW hT
  have hcW:=hE.rcp.inC oW hv
  refine(pI W g _ _ A C k 93 Q P #[] _ _ (hE.rcp.inC oW hu) hcW hC (by omega) (by omega) hQ (by omega) hP (by omega) (fun W' o'=>hE.rcp.inC (oW.trans o') hu)
   (Bt W W.heap.size P0 (P0+1) P3 P2 gv gr gd gm gt gk ge g s1 l m1 T _ vv A C b n k P (wl A) (by omega) (by omega) h2 h3 b0 b1 (by omega) (by omega) hX (by omega) (by omega) (by omega) ⟨l0,l1,l3,l2⟩ EW.lts ⟨by omega,by omega,by omega,by omega⟩ hcW (nv.toC (by omega)) hTW (Nat.le_refl _)) ⟨s1,m1,EW,hTW,hcW,nv.toC (by omega),d0,d1,d3,d2,Int.le_refl _,by omega,Int.le_refl _,by omega⟩).mono ?_
  rintro e w' ⟨q,r,gq,gx,k1,k2,k3,⟨k4,k5,k6⟩,⟨s',m',j1,_,_,_,_,_,_,_,j2,j3,j4,j5⟩,k8⟩
  refine⟨q,r,k1,k2.toW.shape,k3.toW.shape,q,r,gq,gx,s',m',rfl,k2,k3,⟨k4,by omega,by omega⟩,j1,by omega,?_,by omega,by omega,oW.trans k8⟩
  unfold J1
  omega
 generalize hna:wl A=na at *
 generalize hnb:wl C=nb at *
 have bl:Below W1.heap.size W1 W1.drew:=(Below.refl _ _).drew
 have i1:min (nb:Int) (Q:Int)=(k:Int):=by omega
 obtain⟨k64,hk64⟩:∃ z,z=64*k:=⟨_,rfl⟩
 obtain⟨a2,ha2⟩:∃ z,z=a+1:=⟨_,rfl⟩
 obtain⟨b2,hb2⟩:∃ z,z=b+1:=⟨_,rfl⟩
 obtain⟨bk,hbk⟩:∃ z,z=b+1+64*k:=⟨_,rfl⟩
 rw[<-ha2]at CA
 rw[<-hb2]at CB
 have i2:64*(k:Int)=(k64:Int):=by omega
 have i3:IntKind.i64.wrap (k64:Int)=(k64:Int):=by rw[IntKind.wrap_i64];omega
 have i4:(b2:Int)+(k64:Int)=(bk:Int):=by omega
 have i5:IntKind.i64.wrap (bk:Int)=(bk:Int):=by rw[IntKind.wrap_i64];omega
 have i6:min (a2:Int) (bk:Int)=(n:Int):=by omega
 have X0:=hide (And.intro hk (And.intro hn (And.intro hk64 (And.intro ha2 (And.intro hb2 hbk)))))
 have HQ:=hide hQ
 have HP:=hide hP
 have HNA:=hide hna
 have HNB:=hide hnb
 clear hk hn hk64 ha2 hb2 hbk hQ hP hna hnb
 generalize dP w gv gr gd gm gt gk ge g s l m T A C (J1 n b C P) (cZ na)=SA at *
 suffices H:Calls Tryz.prog 72 #[.pointer (some ⟨gv,0,none⟩),.slice ga na ca,.slice gb nb cb] w (fun e w'=>∃ v,e=.returned v/\SA (.returned v) w') from H.mono (fun e w' ⟨v,he,h⟩=>he▸h)
 go_enter Tryz.func72,Tryz.ntmps72
 go_wp2_with fail
 (try simp only[List.append_eq,List.cons_append,List.nil_append])
 go_region_held3 (fun w'=>w'.cell? ⟨P0+1,0,none⟩=some (.slice gb nb cb)) (first|(exact(ae HC _ bl).2.1)|go_keep) (first
  |(with_reducible refine(ae CQ _ bl).mono ?_;rintro e w2 ⟨rfl,bl⟩)
  |fail)
 clear CQ
 have bA:Below W1.heap.size W1 (w2.alloc (.cells #[.int .i64 0] 3)).drew:=(bl.alloc bl.size _).drew
 have bN:Below W1.heap.size W1 (w2.alloc (.cells #[.int .i64 (n:Int)] 3)).drew:=(bl.alloc bl.size _).drew
 have lP1:P0+1<w2.heap.size:=Nat.lt_of_lt_of_le lB bl.size
 have bl:Below W1.heap.size W1 w2.drew:=bl.drew
 go_wp2_with fail
 (try simp only[List.append_eq,List.cons_append,List.nil_append])
 go_region_held3 (fun w'=>w'.cell? ⟨P0+1,0,none⟩=some (.slice gb nb cb)) (first|(exact(ae HC _ bl).2.1)|(exact(ae HC _ bA).2.1)|(exact(ae HC _ bN).2.1)|go_keep) (first
  |(with_reducible refine(ae CA _ bl).mono ?_;rintro e w3 ⟨rfl,hw3⟩;subst hw3)
  |(with_reducible refine(ae CB _ bl).mono ?_;rintro e w3 ⟨rfl,hw3⟩;subst hw3)
  |(with_reducible refine(ae CA _ bA).mono ?_;rintro e w3 ⟨rfl,hw3⟩;subst hw3)
  |(with_reducible refine(ae CB _ bA).mono ?_;rintro e w3 ⟨rfl,hw3⟩;subst hw3)
  |fail)
 all_goals
  have cN:(w2.alloc (.cells #[.int .i64 (n:Int)] 3)).drew.cell? ⟨w2.heap.size,0,none⟩=some (.int .i64 (n:Int)):=cell_of_row _ w2.heap.size 0 _ _ (0,0) (heap_alloc_new w2 _)
  obtain⟨W3,hW3⟩:∃ W3,(w2.alloc (.cells #[.int .i64 (n:Int)] 3)).drew=W3:=⟨_,rfl⟩
  have s3:W3.heap.size=w2.heap.size+1:=by rw[<-hW3];simp
  rw[hW3]at bN cN ⊢
  obtain⟨P2,hP2⟩:∃ P2,w2.heap.size=P2:=⟨_,rfl⟩
  rw[hP2]at cN
  have HS3:=hide s3
  have HN3:Hid (∀ W,Below W3.heap.size W3 W->W.cell? ⟨P0,0,none⟩=some (.pointer (some ⟨gv,0,none⟩))/\W.cell? ⟨P0+1,0,none⟩=some (.slice gb nb cb)/\W.cell? ⟨gv,0,none⟩=some (.pointer (some ⟨gr,0,none⟩))/\W.cell? ⟨P2,0,none⟩=some (.int .i64 (n:Int))):=fun W bW=>by
   obtain⟨f0,f1,f2⟩:=ae HC _ (ag bN bW)
   exact⟨f0,f1,f2,(bW.cell (p:=⟨P2,0,none⟩) (by rw[s3];show P2<_;omega)).trans cN⟩
  have CR3:=hide (fun W (bW:Below W3.heap.size W3 W)=>ae CR W (ag bN bW))
  have o13:Out (·=g) w W3:=Out.of_below (ag bW1 bN)
  have hP2g:g<W3.heap.size:=Nat.lt_of_lt_of_le lts.2.2.2.2.2.2.2 o13.size
  have hP2P:P0+1<P2:=by omega
  have HK:Hid (∀ W,Out (fun j=>j=g\/W3.heap.size<=j) W3 W->W.cell? ⟨P0,0,none⟩=some (.pointer (some ⟨gv,0,none⟩))/\W.cell? ⟨P0+1,0,none⟩=some (.slice gb nb cb)/\W.cell? ⟨gv,0,none⟩=some (.pointer (some ⟨gr,0,none⟩))/\W.cell? ⟨P2,0,none⟩=some (.int .i64 (n:Int))):=fun W oW=>by
   obtain⟨f0,f1,f2,f3⟩:=ae HN3 _ (Below.refl _ _)
   have q0:=World.block_lt_of_cell? _ _ f0
   have q1:=World.block_lt_of_cell? _ _ f1
   have q2:=World.block_lt_of_cell? _ _ f2
   have q3:=World.block_lt_of_cell? _ _ f3
   have r0:P0≠g:=by omega
   have r1:P0+1≠g:=by omega
   have r2:P2≠g:=by omega
   have r3:gv≠g:=hE.nm
   exact⟨oW.cell f0 (fun h=>by rcases h with h|h;exact r0 h;exact absurd q0 (Nat.not_lt.2 h)),oW.cell f1 (fun h=>by rcases h with h|h;exact r1 h;exact absurd q1 (Nat.not_lt.2 h)),oW.cell f2 (fun h=>by rcases h with h|h;exact r3 h;exact absurd q2 (Nat.not_lt.2 h)),oW.cell f3 (fun h=>by rcases h with h|h;exact r2 h;exact absurd q3 (Nat.not_lt.2 h))⟩
  have HA:Hid (∀ W ob,Out (fun j=>j=g\/W3.heap.size<=j) W3 W->Out (fun j=>j=g\/W3.heap.size<=j) W3 (W.alloc ob)):=fun W ob oW=>oW.next ((Below.refl _ _).alloc (Nat.le_refl _) _)
  have HT3:Hid (∀ W r,Out (fun j=>j=g\/W3.heap.size<=j) W3 W->Out (fun j=>j=g\/W3.heap.size<=j) W3 (W.setCell ⟨W3.heap.size,0,none⟩ r)):=fun W r oW=>oW.trans ((Out.refl _ _).set (g:=W3.heap.size) (i:=0) (Or.inr (Nat.le_refl _)) r)
  have HO1:Hid (∀ W,Out (·=g) W3.drew W->Out (fun j=>j=g\/W3.heap.size<=j) W3 W):=fun W o=>(Out.of_below ((Below.refl _ W3).drew)).trans (o.mono fun _ e=>Or.inl e)
  have HO2:Hid (∀ W,Out (·=g) (W3.alloc (.cells #[.slice none 0 0] 29)).drew W->Out (fun j=>j=g\/W3.heap.size<=j) W3 W/\W.cell? ⟨W3.heap.size,0,none⟩=some (.slice none 0 0)/\W.frozen? ⟨W3.heap.size,0,none⟩=false/\Hid (NI W W3.heap.size (.slice none 0 0) 29)):=fun W o=>by
   have hn:=heap_alloc_new W3 (.cells #[.slice none 0 0] 29)
   have hn2:(W3.alloc (.cells #[.slice none 0 0] 29)).drew.heap[W3.heap.size]?=some (.cells #[.slice none 0 0] 29 (0,0)):=hn
   have hn3:=(o.block W3.heap.size (by simp) (show ¬W3.heap.size=g by omega)).trans hn2
   exact⟨(Out.of_below (((Below.refl _ W3).alloc (Nat.le_refl _) _).drew)).trans (o.mono fun _ e=>Or.inl e),cell_of_row _ W3.heap.size 0 _ _ (0,0) hn3,frozen_of_row W W3.heap.size 0 _ _ hn3,hn3⟩
  clear CA CB bA bl i1 i2 i3 i4 i5 i6 hW3 s3 cN CR
  have bl:Below W3.heap.size W3 W3.drew:=(Below.refl _ _).drew
  have bA:Below W3.heap.size W3 (W3.alloc (.cells #[.slice none 0 0] 29)).drew:=((Below.refl _ W3).alloc (Nat.le_refl _) _).drew
  go_wp2_with fail
  (try simp only[List.append_eq,List.cons_append,List.nil_append])
  go_region_held3 (fun w'=>w'.cell? ⟨P0,0,none⟩=some (.pointer (some ⟨gv,0,none⟩))/\w'.cell? ⟨P0+1,0,none⟩=some (.slice gb nb cb)/\w'.cell? ⟨gv,0,none⟩=some (.pointer (some ⟨gr,0,none⟩))/\w'.cell? ⟨P2,0,none⟩=some (.int .i64 (n:Int))) (first|(exact ae HN3 _ bl)|(exact ae HN3 _ bA)|(exact ae HK _ o4)|(exact ae HK _ (ae HA _ _ o4))|(exact ae HK _ (ae HT3 _ _ o4))|go_keep) (first
   |(with_reducible refine(ae CR3 _ bl).mono ?_;rintro e w4 ⟨va,vl,vc,s4,m4,rfl,n4,E4,y1,y2,y3,y4,o4⟩;have o4:=ae HO1 _ o4)
   |(with_reducible refine(ae CR3 _ bA).mono ?_;rintro e w4 ⟨va,vl,vc,s4,m4,rfl,n4,E4,y1,y2,y3,y4,o4⟩;obtain⟨o4,c4,f4,on4⟩:=ae HO2 _ o4)
   |fail)
  all_goals
   have HG:Hid (∀ W5 P3,aN W5 gv gr gd gm gt gk ge g s4 l m4 T->ah w.heap.size W5 (.slice va vl vc) (2^n/C)->Out (fun j=>j=g\/W3.heap.size<=j) W3 W5->W3.heap.size<=P3->W5.cell? ⟨P3,0,none⟩=some (.slice va vl vc)->W5.cell? ⟨P0+1,0,none⟩=some (.slice gb nb cb)/\∀ W,Below W5.heap.size W5 W->Calls Tryz.prog 92 #[.slice ga na ca,.slice gb nb cb,.int .i64 (k:Int),.func (.func 93) #[] #[.pointer (some ⟨P0,0,none⟩),.pointer (some ⟨P0+1,0,none⟩),.pointer (some ⟨P3,0,none⟩),.pointer (some ⟨P2,0,none⟩)]] W fun e w'=>∃ q r,e=.returned (.tuple #[q,r])/\(∃ x y z,q=.slice x y z)/\(∃ x y z,r=.slice x y z)/\SA (.returned (.tuple #[q,r,.int .i64 0])) w'):=fun W5 P3 E5 n5 o5 hP3 c5=>by
    obtain⟨f0,f1,f2,f3⟩:=ae HK _ o5
    refine⟨f1,fun W bW=>?_⟩
    have ow5:Out (·=g) w W5:=Out.fresh o13 o5 (fun i h=>by rcases h with h|h;exact Or.inl h;exact Or.inr (Nat.le_trans o13.size h))
    have sz3:=ae HS3
    exact ae HP2 W P2 P3 _ s4 m4 (E5.next bW) y1 y2 y3 y4 (n5.next bW) (ow5.next bW) hP2P (by omega) ((bW.cell (p:=⟨P0,0,none⟩) (World.block_lt_of_cell? _ _ f0)).trans f0) ((bW.cell (p:=⟨P0+1,0,none⟩) (World.block_lt_of_cell? _ _ f1)).trans f1) ((bW.cell (p:=⟨P2,0,none⟩) (World.block_lt_of_cell? _ _ f3)).trans f3) ((bW.cell (p:=⟨P3,0,none⟩) (World.block_lt_of_cell? _ _ c5)).trans c5)
   have hwW3:=o13.size
   have hl4:=lts
   first
    |(have o45:Out (·=W3.heap.size) w4 (w4.setCell ⟨W3.heap.size,0,none⟩ (.slice va vl vc)):=(Out.refl (fun j=>j=W3.heap.size) w4).set (g:=W3.heap.size) (i:=0) rfl _
      have c5:=((ae on4).set (.slice va vl vc)).cell
      have E5:aN (w4.setCell ⟨W3.heap.size,0,none⟩ (.slice va vl vc)) gv gr gd gm gt gk ge g s4 l m4 T:=⟨o45.cell E4.ptr (fun(e:gv=W3.heap.size)=>by omega),E4.rcp.out o45 (fun(e:gr=W3.heap.size)=>by omega) (fun(e:gd=W3.heap.size)=>by omega) (fun(e:gm=W3.heap.size)=>by omega) (fun(e:gt=W3.heap.size)=>by omega) (fun(e:gk=W3.heap.size)=>by omega) (fun(e:ge=W3.heap.size)=>by omega) (fun(e:g=W3.heap.size)=>by omega),E4.nm⟩
      have n5:=(o45.newW n4 (fun k (e:k=W3.heap.size)=>by rw[e];simp)).mono (B':=w.heap.size) (by simp;omega)
      have G5:=ae HG _ _ E5 n5 (ae HT3 _ _ o4) (Nat.le_refl _) c5
      obtain⟨W5,hW5⟩:∃ W5,w4.setCell ⟨W3.heap.size,0,none⟩ (.slice va vl vc)=W5:=⟨_,rfl⟩
      obtain⟨P3,hP3⟩:∃ P3,W3.heap.size=P3:=⟨_,rfl⟩
      rw[hW5,hP3]at G5
      rw[hW5,hP3]
      have HG5:=hide G5.2
      have c9:=G5.1
      clear hW5 hP3 G5 E5 n5 c5 o45 c4 f4 on4)
    |(have E5:=E4.next ((Below.refl _ w4).alloc (Nat.le_refl _) (.cells #[.slice va vl vc] 29))
      have n5:=(n4.next ((Below.refl _ w4).alloc (Nat.le_refl _) (.cells #[.slice va vl vc] 29))).mono (B':=w.heap.size) (by simp;omega)
      have c5:(w4.alloc (.cells #[.slice va vl vc] 29)).cell? ⟨w4.heap.size,0,none⟩=some (.slice va vl vc):=cell_of_row _ w4.heap.size 0 _ _ (0,0) (heap_alloc_new w4 _)
      have G5:=ae HG _ _ E5 n5 (ae HA _ _ o4) o4.size c5
      obtain⟨W5,hW5⟩:∃ W5,w4.alloc (.cells #[.slice va vl vc] 29)=W5:=⟨_,rfl⟩
      obtain⟨P3,hP3⟩:∃ P3,w4.heap.size=P3:=⟨_,rfl⟩
      rw[hW5,hP3]at G5
      rw[hW5,hP3]
      have HG5:=hide G5.2
      have c9:=G5.1
      clear hW5 hP3 G5 E5 n5 c5)
   clear HG HA HT3 HO1 HO2 HK HN3 CR3 n4 E4 y1 y2 y3 y4 o4 HP2 bl bA
   go_wp2_with fail
   with_reducible refine(ae HG5 _ (Below.refl _ _)).mono ?_
   rintro e w6 ⟨q,r,rfl,⟨_,_,_,rfl⟩,⟨_,_,_,rfl⟩,h⟩
   have HX:=hide h
   clear HG5 h
   go_wp2
   go_ret3
   exact⟨_,rfl,ae HX⟩
end Go.Proofs.YtgcnhfgpflncaaaGreatDoor
/- New,DivMod,Exact and Divides of the landed package div. -/
namespace Go.Proofs.YtgcnhfgpflncaaaGreatDoor
open Go.RowKit
set_option maxHeartbeats 1600000 in
theorem Et:FA:=by
 intro T w
 have CC:=hide (fun w=>ED T w)
 unfold Tab.val at CC ⊢
 go_enter Tryz.func31,Tryz.ntmps31
 go_wp2_with fail
 refine(ae CC _).mono ?_
 rintro e w1 ⟨gr,gd,gm,gt,gk,ge,g,rfl,E1,⟨hgr,hgd,hgm,hgt,hgk,hge,hg⟩,b1⟩
 have hg':w.heap.size<=g:=Nat.le_trans (by simp) hg
 have hge':w.heap.size<=ge:=Nat.le_trans (by simp) hge
 have hgk':w.heap.size<=gk:=Nat.le_trans (by simp) hgk
 have hgt':w.heap.size<=gt:=Nat.le_trans (by simp) hgt
 have hgm':w.heap.size<=gm:=Nat.le_trans (by simp) hgm
 have hgd':w.heap.size<=gd:=Nat.le_trans (by simp) hgd
 have hgr':w.heap.size<=gr:=Nat.le_trans (by simp) hgr
 have b0:=hide (ag ((Below.refl w.heap.size w).alloc (Nat.le_refl _) _) b1)
 have tl:=E1.met.lt
 have HE:=hide E1
 clear CC b1 hg E1 hge hgk hgt hgm hgd hgr
 go_wp2
 go_ret
 refine⟨w1.heap.size,gr,gd,gm,gt,gk,ge,g,rfl,⟨?_,(ae HE).next ((Below.refl _ _).alloc (Nat.le_refl _) _),by omega⟩,⟨(ae b0).size,hgr',hgd',hgm',hgt',hgk',hge',hg'⟩,(ae b0).alloc (ae b0).size _⟩
 exact cell_of_row _ w1.heap.size 0 _ _ (0,0) (heap_alloc_new w1 _)
theorem FY{A C b n k Q P:Nat}(hC:0<C)(hQ:Q=wl (A/C))(hL4:4<=wl C)(hQ4:4<=Q)(hk:k=min (wl C) Q)(hn:n<=b+1+64*k)(hb:b+1<=64*wl C)(hP:P=cd Q k):
  J1 n b C P<=64*(wl A*wl A)+64:=by
 have hqle:=AA (A:=A) hC
 have hnn:¬wl A<wl C:=fun h=>by have:=ku h;omega
 rw[<-hQ]at hqle
 obtain⟨L,hL⟩:∃ L,L=wl C:=⟨_,rfl⟩
 obtain⟨S,hS⟩:∃ S,S=L+Q-1:=⟨_,rfl⟩
 have hSA:S<=wl A:=by omega
 have hSS:S*S<=wl A*wl A:=Nat.mul_le_mul hSA hSA
 have wn:wl (2^n)<=L+k+1:=by
  have:=cL (n:=2^n) (b:=n+1) (by rw[Nat.pow_succ];have:=Nat.two_pow_pos n;omega)
  omega
 have g1:nI (2^n) C<=(k+2)*(L+1):=by
  unfold nI
  rw[<-hL]
  split
  ·omega
  ·exact Nat.mul_le_mul_right _ (by omega)
 have g2:nc (n-(b+1))<=8*(k*k)+100*k+4:=by
  have h1:=Ib (n-(b+1))
  have h2:n-(b+1)<=64*k:=by omega
  have h3:(n-(b+1))*(n-(b+1))<=(64*k)*(64*k):=Nat.mul_le_mul h2 h2
  have h4:(64*k)*(64*k)=4096*(k*k):=by grind
  omega
 have g3:(n-(b+1)+65)/64*L<=(k+1)*L:=Nat.mul_le_mul_right _ (by omega)
 have g4:sO n b C<=16*((k+1)*L)+8*((k+1)*(k+1)):=by
  unfold sO
  rw[<-hL]
  have h1:(n-b+64)/64<=k+1:=by omega
  have h2:(n-b+64)/64*L<=(k+1)*L:=Nat.mul_le_mul_right _ h1
  have h3:(n-b+64)/64*((n-b+64)/64)<=(k+1)*(k+1):=Nat.mul_le_mul h1 h1
  omega
 have hcd:=(yt (Q:=Q) (k:=k) (by omega)).2
 rw[<-hP]at hcd
 unfold J1 OK
 rw[<-hL]
 have e1:(k+2)*(L+1)=k*L+k+2*L+2:=by grind
 have e2:(k+1)*L=k*L+L:=by grind
 have e3:(k+1)*(k+1)=k*k+2*k+1:=by grind
 have m1:P*sO n b C<=P*(16*((k+1)*L)+8*((k+1)*(k+1))):=Nat.mul_le_mul_left P g4
 rcases Nat.le_total Q L with hQL|hQL
 ·have hkQ:k=Q:=by omega
  have hP1:P=1:=by
   rw[hP,hkQ]
   unfold cd
   rw[show Q+Q-1=Q*1+(Q-1) by omega,Nat.mul_add_div (by omega),Nat.div_eq_of_lt (by omega)]
  have m1':P*sO n b C<=16*((k+1)*L)+8*((k+1)*(k+1)):=by rw[hP1,Nat.one_mul];exact g4
  clear m1 hcd hP hP1 g4
  generalize P*sO n b C=X at *
  generalize (n-(b+1)+65)/64*L=Y at *
  generalize nc (n-(b+1))=Z at *
  generalize nI (2^n) C=V at *
  rw[e1]at g1
  rw[e2]at g3 m1'
  rw[e3]at m1'
  subst hkQ
  have e4:S*S=L*L+2*(k*L)+k*k+1-2*L-2*k:=by
   rw[hS]
   have:L+k-1+1=L+k:=by omega
   obtain⟨z,hz⟩:∃ z,L+k-1=z:=⟨_,rfl⟩
   have hz2:L+k=z+1:=by omega
   have h9:(L+k)*(L+k)=(z+1)*(z+1):=by rw[hz2]
   have h10:(L+k)*(L+k)=L*L+2*(k*L)+k*k:=by grind
   have h11:(z+1)*(z+1)=z*z+2*z+1:=by grind
   rw[hz]
   omega
  have f1:4*L<=L*L:=Nat.mul_le_mul_right L (by omega)
  have f2:4*k<=k*k:=Nat.mul_le_mul_right k hQ4
  have f3:4*L<=k*L:=Nat.mul_le_mul_right L hQ4
  have f4:4*k<=k*L:=by have:=Nat.mul_le_mul_left k (show 4<=L by omega);omega
  omega
 ·have hkL:k=L:=by omega
  subst hkL
  have m2:P*(16*((k+1)*k)+8*((k+1)*(k+1)))<=(P*k)*(24*k+36):=by
   have h1:16*((k+1)*k)+8*((k+1)*(k+1))<=k*(24*k+36):=by
    have q1:(k+1)*k=k*k+k:=by grind
    have q2:k*(24*k+36)=24*(k*k)+36*k:=by grind
    omega
   have:=Nat.mul_le_mul_left P h1
   rw[<-Nat.mul_assoc P k]at this
   exact this
  have m3:(P*k)*(24*k+36)<=S*(24*k+36):=Nat.mul_le_mul_right _ (by omega)
  have e5:S*(24*k+36)=24*(S*k)+36*S:=by grind
  have f1:2*k<=S+1:=by omega
  have f2:(2*k)*S<=(S+1)*S:=Nat.mul_le_mul_right S f1
  have f3:(2*k)*(2*k)<=(S+1)*(S+1):=Nat.mul_le_mul f1 f1
  have e6:(2*k)*S=2*(S*k):=by grind
  have e7:(S+1)*S=S*S+S:=by grind
  have e8:(2*k)*(2*k)=4*(k*k):=by grind
  have e9:(S+1)*(S+1)=S*S+2*S+1:=by grind
  have f4:7*S<=S*S:=Nat.mul_le_mul_right S (by omega)
  have m4:=Nat.le_trans m1 (Nat.le_trans m2 m3)
  clear m1 m2 m3 hcd hP g4
  generalize P*sO n b C=X at *
  generalize (n-(b+1)+65)/64*k=Y at *
  generalize nc (n-(b+1))=Z at *
  generalize nI (2^n) C=V at *
  rw[e1]at g1
  rw[e2]at g3
  rw[e5]at m4
  omega
set_option maxRecDepth 100000 in
set_option maxHeartbeats 3200000 in
theorem Kv(w:World)(gv gr gd gm gt gk ge g:Nat)(s l m:Int)(T:Tab)(u v:Value)(A C:Nat)
  (hE:aN w gv gr gd gm gt gk ge g s l m T) (h0:0<=s) (h1:s<=1152921504606846976) (h2:0<=l) (h3:l<=1000) (hu:bh w u A) (hv:bh w v C) (hC:0<C)
  (hs:(wl C:Int)<T.clamp.row.getD 3 0\/(wl (A/C):Int)<T.clamp.row.getD 3 0):
  Calls Tryz.prog 55 #[.pointer (some ⟨gv,0,none⟩),u,v] w (dP w gv gr gd gm gt gk ge g s l m T A C (nI A C) 0):=by
 obtain⟨a,ia,CA⟩:=fO hu
 obtain⟨d,jd,CD⟩:=fO hv
 have CA:=hide CA
 have CD:=hide CD
 have CS:=hide (fm w gv gr gd gm gt gk ge g s l m T a d A C _ true hE ia jd hC rfl (by rw[eq_comm,decide_eq_true_iff];exact hs))
 have CL:Hid (∀ W,Below w.heap.size w W->Calls Tryz.prog 71 #[.pointer (some ⟨gd,0,none⟩),a,d] W fun e w'=>∃ q r,e=.returned (.tuple #[q,r,.int .i64 0])/\(∃ x y z,q=.slice x y z)/\(∃ x y z,r=.slice x y z)/\dP w gv gr gd gm gt gk ge g s l m T A C (nI A C) 0 (.returned (.tuple #[q,r,.int .i64 0])) w'):=fun W bw=>by
  refine(ky W gr gd gm gt gk ge g s l m T _ _ A C (hE.next bw).rcp h0 h1 h2 h3 (ia.next bw).inM (jd.next bw).inM hC).mono ?_
  rintro e w' ⟨q,r,gq,gx,k1,k2,k3,⟨k4,k5,k6⟩,k7,k8⟩
  have sz:=bw.size
  exact⟨q,r,k1,k2.toW.shape,k3.toW.shape,q,r,gq,gx,_,m,rfl,k2,k3,⟨k4,by omega,by omega⟩,(hE.next bw).kept k8 k7,by omega,Int.le_refl _,Int.le_refl _,by omega,(Out.of_below bw).trans k8⟩
 have HC:Hid (∀ W,Below w.heap.size w W->W.cell? ⟨gv,0,none⟩=some (.pointer (some ⟨gr,0,none⟩))/\W.cell? ⟨gr,0,none⟩=some (.pointer (some ⟨gd,0,none⟩))):=fun W bW=>by
  obtain⟨d0,d1,_⟩:=(hE.next bW).way
  exact⟨d0,d1⟩
 have hnb:¬(wl C:Int)=0:=by have:=bO (n:=C);omega
 obtain⟨ga,_,_,ca,rfl, -, -⟩:=ia.is
 obtain⟨gb,_,_,cb,rfl, -, -⟩:=jd.is
 obtain⟨gu,lu,cu,rfl⟩:=hu.inW.is
 obtain⟨gw,lw,cw,rfl⟩:=hv.inW.is
 generalize dP w gv gr gd gm gt gk ge g s l m T A C (nI A C) 0=SA at *
 generalize wl A=na at *
 generalize wl C=nb at *
 clear hu hv ia jd hE h0 h1 h2 h3 hC hs
 suffices H:Calls Tryz.prog 55 #[.pointer (some ⟨gv,0,none⟩),.slice gu lu cu,.slice gw lw cw] w (fun e w'=>∃ v,e=.returned v/\SA (.returned v) w') from H.mono (fun e w' ⟨v,he,h⟩=>he▸h)
 go_enter Tryz.func55,Tryz.ntmps55
 go_wp2_with fail
 with_reducible refine(ae CA).mono ?_
 rintro e w1 ⟨rfl,hw⟩
 obtain rfl:=hw.symm
 clear hw CA
 go_wp2_with fail
 with_reducible refine(ae CD).mono ?_
 rintro e w1 ⟨rfl,hw⟩
 obtain rfl:=hw.symm
 clear hw CD
 go_wp2_with fail
 with_reducible refine(ae CS).mono ?_
 rintro e w1 ⟨rfl,b1⟩
 obtain⟨e0,e1⟩:=ae HC _ b1
 clear CS HC
 go_wp2_with fail
 with_reducible refine(ae CL _ b1).mono ?_
 rintro e w2 ⟨q,r,rfl,⟨_,_,_,rfl⟩,⟨_,_,_,rfl⟩,h⟩
 have HX:=hide h
 clear CL h
 go_wp2
 go_ret3
 exact⟨_,rfl,ae HX⟩
set_option maxRecDepth 100000 in
set_option maxHeartbeats 3200000 in
theorem Gp(w:World)(gv gr gd gm gt gk ge g:Nat)(s l m:Int)(T:Tab)(u v:Value)(A C:Nat)(rc:Bool)(SA:Ending->World->Prop)
  (hE:aN w gv gr gd gm gt gk ge g s l m T) (hu:bh w u A) (hv:bh w v C) (hC:0<C)
  (hs1:¬(wl C:Int)<T.clamp.row.getD 3 0) (hs2:¬(wl (A/C):Int)<T.clamp.row.getD 3 0) (hrc:rc=decide (T.clamp.row.getD 4 0<=(wl C:Int)))
  (H:∀ W a d,Below w.heap.size w W->dF W a A->dF W d C->Calls Tryz.prog (if rc then 72 else 73) #[.pointer (some ⟨gv,0,none⟩),a,d] W fun e w'=>∃ q r,e=.returned (.tuple #[q,r,.int .i64 0])/\(∃ x y z,q=.slice x y z)/\(∃ x y z,r=.slice x y z)/\SA (.returned (.tuple #[q,r,.int .i64 0])) w'):
  Calls Tryz.prog 55 #[.pointer (some ⟨gv,0,none⟩),u,v] w SA:=by
 obtain⟨a,ia,CA⟩:=fO hu
 obtain⟨d,jd,CD⟩:=fO hv
 have CA:=hide CA
 have CD:=hide CD
 have CS:=hide (fm w gv gr gd gm gt gk ge g s l m T a d A C _ false hE ia jd hC rfl (by rw[eq_comm,decide_eq_false_iff_not];omega))
 have HC:Hid (∀ W,Below w.heap.size w W->W.cell? ⟨gv,0,none⟩=some (.pointer (some ⟨gr,0,none⟩))/\W.cell? ⟨gr,0,none⟩=some (.pointer (some ⟨gd,0,none⟩))/\W.cell? ⟨gd,0,none⟩=some (.pointer (some ⟨gm,0,none⟩))/\W.cell? ⟨gm,0,none⟩=some (.pointer (some ⟨gt,0,none⟩))/\W.cell? ⟨gt,0,none⟩=some (.pointer (some ⟨gk,0,none⟩))/\W.cell? ⟨gk,0,none⟩=some (.pointer (some ⟨ge,0,none⟩))/\W.cell? ⟨ge,0,none⟩=some (.pointer (some ⟨g,0,none⟩))/\W.cell? ⟨g,7,none⟩=some (.int .i64 (T.clamp.row.getD 4 0))):=fun W bW=>by
  obtain⟨e0,e1,e2,e3,e4,e5,e6⟩:=(hE.next bW).way
  exact⟨e0,e1,e2,e3,e4,e5,e6,(hE.next bW).rcp.div.mul.toom.kara.tab 4 (by decide)⟩
 have CH:=hide (fun W (bW:Below w.heap.size w W)=>H W a d bW (ia.next bW) (jd.next bW))
 have hnb:¬(wl C:Int)=0:=by have:=bO (n:=C);omega
 obtain⟨ga,_,_,ca,rfl, -, -⟩:=ia.is
 obtain⟨gb,_,_,cb,rfl, -, -⟩:=jd.is
 obtain⟨gu,lu,cu,rfl⟩:=hu.inW.is
 obtain⟨gw,lw,cw,rfl⟩:=hv.inW.is
 generalize T.clamp.row.getD 4 0=t at *
 generalize wl A=na at *
 generalize wl C=nb at *
 clear hu hv ia jd hE hC hs1 hs2 H
 suffices H:Calls Tryz.prog 55 #[.pointer (some ⟨gv,0,none⟩),.slice gu lu cu,.slice gw lw cw] w (fun e w'=>∃ v,e=.returned v/\SA (.returned v) w') from H.mono (fun e w' ⟨v,he,h⟩=>he▸h)
 rcases Bool.eq_false_or_eq_true rc with hr|hr
 ·subst hr
  have hle:t<=(nb:Int):=by simpa using hrc.symm
  rw[if_pos rfl]at CH
  clear hrc
  go_enter Tryz.func55,Tryz.ntmps55
  go_wp2_with fail
  with_reducible refine(ae CA).mono ?_
  rintro e w1 ⟨rfl,hw⟩
  obtain rfl:=hw.symm
  clear hw CA
  go_wp2_with fail
  with_reducible refine(ae CD).mono ?_
  rintro e w1 ⟨rfl,hw⟩
  obtain rfl:=hw.symm
  clear hw CD
  go_wp2_with fail
  with_reducible refine(ae CS).mono ?_
  rintro e w1 ⟨rfl,b1⟩
  obtain⟨e0,e1,e2,e3,e4,e5,e6,e7⟩:=ae HC _ b1
  clear CS HC
  go_wp2_with fail
  with_reducible refine(ae CH _ b1).mono ?_
  rintro e w2 ⟨q,r,rfl,⟨_,_,_,rfl⟩,⟨_,_,_,rfl⟩,h⟩
  have HX:=hide h
  clear CH h
  go_wp2
  go_ret3
  exact⟨_,rfl,ae HX⟩
 ·subst hr
  have hle:¬t<=(nb:Int):=by simpa using hrc.symm
  rw[if_neg (by decide)]at CH
  clear hrc
  go_enter Tryz.func55,Tryz.ntmps55
  go_wp2_with fail
  with_reducible refine(ae CA).mono ?_
  rintro e w1 ⟨rfl,hw⟩
  obtain rfl:=hw.symm
  clear hw CA
  go_wp2_with fail
  with_reducible refine(ae CD).mono ?_
  rintro e w1 ⟨rfl,hw⟩
  obtain rfl:=hw.symm
  clear hw CD
  go_wp2_with fail
  with_reducible refine(ae CS).mono ?_
  rintro e w1 ⟨rfl,b1⟩
  obtain⟨e0,e1,e2,e3,e4,e5,e6,e7⟩:=ae HC _ b1
  clear CS HC
  go_wp2_with fail
  with_reducible refine(ae CH _ b1).mono ?_
  rintro e w2 ⟨q,r,rfl,⟨_,_,_,rfl⟩,⟨_,_,_,rfl⟩,h⟩
  have HX:=hide h
  clear CH h
  go_wp2
  go_ret3
  exact⟨_,rfl,ae HX⟩
theorem vE(w:World)(gv gr gd gm gt gk ge g:Nat)(s l m:Int)(T:Tab)(u v:Value)(A C:Nat)
  (hE:aN w gv gr gd gm gt gk ge g s l m T) (hT:TB w) (h0:0<=s) (h1:s<=1143914000000000000) (h2:0<=l) (h3:l<=900) (hu:bh w u A) (hv:bh w v C) (hC:0<C) (hwA:wl A<=16000):
  Calls Tryz.prog 55 #[.pointer (some ⟨gv,0,none⟩),u,v] w (dP w gv gr gd gm gt gk ge g s l m T A C (64*(wl A*wl A)+64) (4*Lib.bitLen (wl A)+8)):=by
 have ht:=ue T
 have wC:=hv.wlM
 have wC0:0<wl C:=by have:=bO (n:=C);omega
 have hAA:wl A*wl A<=16000*16000:=Nat.mul_le_mul hwA hwA
 have hup:∀ K M e w',K<=64*(wl A*wl A)+64->M<=4*Lib.bitLen (wl A)+8->dP w gv gr gd gm gt gk ge g s l m T A C K M e w'->dP w gv gr gd gm gt gk ge g s l m T A C (64*(wl A*wl A)+64) (4*Lib.bitLen (wl A)+8) e w':=by
  rintro K M e w' hK hM ⟨q,r,gq,gx,s',m',k1,k2,k3,k4,k5,k6,k7,k8,k9,k0⟩
  exact⟨q,r,gq,gx,s',m',k1,k2,k3,k4,k5,k6,by omega,k8,by omega,k0⟩
 have hfm:∀ W K M e w',Below w.heap.size w W->dP W gv gr gd gm gt gk ge g s l m T A C K M e w'->K<=64*(wl A*wl A)+64->M<=4*Lib.bitLen (wl A)+8->∃ q r,e=.returned (.tuple #[q,r,.int .i64 0])/\(∃ x y z,q=.slice x y z)/\(∃ x y z,r=.slice x y z)/\dP w gv gr gd gm gt gk ge g s l m T A C (64*(wl A*wl A)+64) (4*Lib.bitLen (wl A)+8) (.returned (.tuple #[q,r,.int .i64 0])) w':=by
  rintro W K M e w' bW ⟨q,r,gq,gx,s',m',k1,k2,k3,⟨k4,k5,k6⟩,k7,k8,k9,k0,k11,k12⟩ hK hM
  have sz:=bW.size
  exact⟨q,r,k1,k2.toW.shape,k3.toW.shape,q,r,gq,gx,s',m',rfl,k2,k3,⟨k4,by omega,by omega⟩,k7,k8,by omega,k0,by omega,(Out.of_below bW).trans k12⟩
 by_cases hs:(wl C:Int)<T.clamp.row.getD 3 0\/(wl (A/C):Int)<T.clamp.row.getD 3 0
 ·refine(Kv w gv gr gd gm gt gk ge g s l m T u v A C hE h0 (by omega) h2 (by omega) hu hv hC hs).mono fun e w' h=>hup _ _ e w' ?_ (by omega) h
  unfold nI
  split
  ·omega
  ·rcases Dh (a:=wl A) (c:=wl C) wC0 with h|h
   ·exact h
   ·omega
 ·have hs':¬(wl C:Int)<T.clamp.row.getD 3 0/\¬(wl (A/C):Int)<T.clamp.row.getD 3 0:=by omega
  have hL4:4<=wl C:=by omega
  have hQ4:4<=wl (A/C):=by omega
  have hqle:=AA (A:=A) hC
  have hnn:¬wl A<wl C:=fun h=>by have:=ku h;omega
  have hA0:0<A:=by
   refine Nat.pos_of_ne_zero fun e=>?_
   rw[e,fK]at hnn
   omega
  have hbm:=dH (wl A) (wl C) (by omega) (by omega)
  have hbm2:=dH (wl A) (wl C-1) (by omega) (by omega)
  refine Gp w gv gr gd gm gt gk ge g s l m T u v A C _ _ hE hu hv hC hs'.1 hs'.2 rfl (fun W a d bW ia jd=>?_)
  by_cases hr:T.clamp.row.getD 4 0<=(wl C:Int)
  ·rw[if_pos (by simpa using hr)]
   obtain⟨a',hab,a0,a1⟩:=iQ hA0 (Nat.le_refl (wl A))
   obtain⟨b',hbb,b0,b1⟩:=iQ hC (Nat.le_refl (wl C))
   have hcost:=FY (A:=A) (b:=b') (n:=min (a'+1) (b'+1+64*min (wl C) (wl (A/C)))) hC rfl hL4 hQ4 rfl (Nat.min_le_right _ _) (by omega) rfl
   refine(Br W gv gr gd gm gt gk ge g s l m T a d A C a' b' _ _ _ _ (hE.next bW) (hT.next bW) h0 (by omega) h2 (by omega) ia jd hC hwA a0 a1 b0 b1 rfl (by omega) rfl rfl rfl).mono fun e w' h=>hfm W _ _ e w' bW h hcost ?_
   unfold cZ
   omega
  ·rw[if_neg (by simpa using hr)]
   have hcost:=KD (f:=wl C) (L:=wl C) (Q:=wl (A/C)) (S:=wl A) hL4 hQ4 (by omega)
   refine(GX W gv gr gd gm gt gk ge g s l m T a d A C (hE.next bW) (hT.next bW) h0 (by omega) h2 h3 ia.inM jd.inM hC (by omega) hs'.1 hs'.2).mono fun e w' h=>hfm W _ _ e w' bW h hcost ?_
   unfold cZ mF
   omega
end Go.Proofs.YtgcnhfgpflncaaaGreatDoor
/- What the engines below do,as root's own;what is spent is bounded alone. -/
namespace Go.Proofs.YtgcnhfgpflncaaaGreatDoor
open Go.RowKit
theorem aM.way{w:World}{gw gv gr gd gm gt gk ge g:Nat}{s l m:Int}{T:Tab}(h:aM w gw gv gr gd gm gt gk ge g s l m T):
  w.cell? ⟨gw,0,none⟩=some (.pointer (some ⟨gv,0,none⟩))/\w.cell? ⟨gv,0,none⟩=some (.pointer (some ⟨gr,0,none⟩))/\w.cell? ⟨gr,0,none⟩=some (.pointer (some ⟨gd,0,none⟩))/\w.cell? ⟨gd,0,none⟩=some (.pointer (some ⟨gm,0,none⟩)):=
 ⟨h.ptr,h.div.way.1,h.div.way.2.1,h.div.way.2.2.1⟩
theorem aM.newW{w w':World}{gw gv gr gd gm gt gk ge g:Nat}{s l m:Int}{T:Tab}(h:aM w gw gv gr gd gm gt gk ge g s l m T)(o:Out (·=g) w w'){B:Nat}{v:Value}{n:Nat}(r:ah B w v n):ah B w' v n:=h.div.rcp.newW o r
theorem aM.inW{w w':World}{gw gv gr gd gm gt gk ge g:Nat}{s l m:Int}{T:Tab}(h:aM w gw gv gr gd gm gt gk ge g s l m T)(o:Out (·=g) w w'){v:Value}{n:Nat}(r:aL w v n):aL w' v n:=h.div.rcp.inW o r
theorem aM.tb{w w':World}{gw gv gr gd gm gt gk ge g:Nat}{s l m:Int}{T:Tab}(h:aM w gw gv gr gd gm gt gk ge g s l m T)(o:Out (·=g) w w')(t:TB w):TB w':=h.div.rcp.tb o t
def nX(w:World)(gw gv gr gd gm gt gk ge g:Nat)(s l:Int)(T:Tab)(c:Nat)(W:World):Prop:=
 ∃ s' m',aM W gw gv gr gd gm gt gk ge g s' l m' T/\(0<=s'/\s'<=s+(c:Int))/\Out (·=g) w W
theorem aM.at{w:World}{gw gv gr gd gm gt gk ge g:Nat}{s l m:Int}{T:Tab}(h:aM w gw gv gr gd gm gt gk ge g s l m T)(h0:0<=s):nX w gw gv gr gd gm gt gk ge g s l T 0 w:=⟨s,m,h,⟨h0,by omega⟩,Out.refl _ _⟩
theorem nX.next{w W W':World}{gw gv gr gd gm gt gk ge g:Nat}{s l:Int}{T:Tab}{c:Nat}(h:nX w gw gv gr gd gm gt gk ge g s l T c W)(b:Below W.heap.size W W'):nX w gw gv gr gd gm gt gk ge g s l T c W':=by
 obtain⟨s',m',E,k,o⟩:=h
 exact⟨s',m',E.next b,k,o.next b⟩
theorem nX.way{w W:World}{gw gv gr gd gm gt gk ge g:Nat}{s l:Int}{T:Tab}{c:Nat}(h:nX w gw gv gr gd gm gt gk ge g s l T c W):
  W.cell? ⟨gw,0,none⟩=some (.pointer (some ⟨gv,0,none⟩))/\W.cell? ⟨gv,0,none⟩=some (.pointer (some ⟨gr,0,none⟩))/\W.cell? ⟨gr,0,none⟩=some (.pointer (some ⟨gd,0,none⟩))/\W.cell? ⟨gd,0,none⟩=some (.pointer (some ⟨gm,0,none⟩)):=by
 obtain⟨s',m',E,_,_⟩:=h
 exact E.way
theorem nX.out{w W:World}{gw gv gr gd gm gt gk ge g:Nat}{s l:Int}{T:Tab}{c:Nat}(h:nX w gw gv gr gd gm gt gk ge g s l T c W):Out (·=g) w W:=by
 obtain⟨_,_,_,_,o⟩:=h
 exact o
theorem nX.up{w W:World}{gw gv gr gd gm gt gk ge g:Nat}{s l:Int}{T:Tab}{c d:Nat}(h:nX w gw gv gr gd gm gt gk ge g s l T c W)(hd:c<=d):nX w gw gv gr gd gm gt gk ge g s l T d W:=by
 obtain⟨s',m',E,k,o⟩:=h
 exact⟨s',m',E,⟨k.1,by omega⟩,o⟩
theorem nX.from{w W W':World}{gw gv gr gd gm gt gk ge g:Nat}{s l s':Int}{T:Tab}{c d:Nat}(h:nX W gw gv gr gd gm gt gk ge g s' l T d W')(hs:s'<=s+(c:Int))(o:Out (·=g) w W):nX w gw gv gr gd gm gt gk ge g s l T (c+d) W':=by
 obtain⟨s2,m',E,k,o2⟩:=h
 exact⟨s2,m',E,⟨k.1,by omega⟩,o.trans o2⟩
def PW(W W':World):Prop:=(∀ B v n,ah B W v n->ah B W' v n)/\(∀ v n,bh W v n->bh W' v n)
theorem aM.kp{w w':World}{gw gv gr gd gm gt gk ge g:Nat}{s l m:Int}{T:Tab}(h:aM w gw gv gr gd gm gt gk ge g s l m T)(o:Out (·=g) w w'):PW w w':=⟨fun _ _ _ x=>h.newW o x,fun _ _ x=>h.inM o x⟩
theorem GH(w W:World)(gw gv gr gd gm gt gk ge g:Nat)(s l m:Int)(T:Tab)(u v:Value)(A C c:Nat)(hE:aM w gw gv gr gd gm gt gk ge g s l m T)(hT:TB w)(h1:s+(c:Int)<=576460752303423488)(h2:0<=l)(h3:l<=900)
  (h:nX w gw gv gr gd gm gt gk ge g s l T c W) (hu:bh W u A) (hv:bh W v C):
  Calls Tryz.prog 65 #[.pointer (some ⟨gm,0,none⟩),u,v] W fun e w'=>∃ r,e=.returned r/\ah w.heap.size w' r (A*C)/\nX w gw gv gr gd gm gt gk ge g s l T (c+4294967296) w'/\PW W w':=by
 obtain⟨s',m',E,k,o⟩:=h
 refine(Gt EA W gm gt gk ge g s' l m' T u v A C E.div.rcp.div.mul (hE.tb o hT) k.1 (by omega) h2 (by omega) hu hv).mono ?_
 rintro e w' ⟨r,s2,m2,rfl,nr,E2,k1,k2,o2⟩
 exact⟨r,rfl,nr.mono o.size,⟨s2,m2,E.kept o2 (E.div.kept o2 (E.div.rcp.kept o2 (E.div.rcp.div.kept o2 E2))),⟨k1,by omega⟩,o.trans o2⟩,E.kp o2⟩
theorem GK(w W:World)(gw gv gr gd gm gt gk ge g:Nat)(s l m:Int)(T:Tab)(u:Value)(A c:Nat)(hE:aM w gw gv gr gd gm gt gk ge g s l m T)(hT:TB w)(h1:s+(c:Int)<=576460752303423488)(h2:0<=l)(h3:l<=900)
  (h:nX w gw gv gr gd gm gt gk ge g s l T c W) (hu:bh W u A):
  Calls Tryz.prog 58 #[.pointer (some ⟨gm,0,none⟩),u] W fun e w'=>∃ r,e=.returned r/\ah w.heap.size w' r (A*A)/\nX w gw gv gr gd gm gt gk ge g s l T (c+4294967296) w'/\PW W w':=by
 obtain⟨s',m',E,k,o⟩:=h
 refine(Gu EC W gm gt gk ge g s' l m' T u A E.div.rcp.div.mul (hE.tb o hT) k.1 (by omega) h2 (by omega) hu).mono ?_
 rintro e w' ⟨r,s2,m2,rfl,nr,E2,k1,k2,o2⟩
 exact⟨r,rfl,nr.mono o.size,⟨s2,m2,E.kept o2 (E.div.kept o2 (E.div.rcp.kept o2 (E.div.rcp.div.kept o2 E2))),⟨k1,by omega⟩,o.trans o2⟩,E.kp o2⟩
theorem GF(w W:World)(gw gv gr gd gm gt gk ge g:Nat)(s l m:Int)(T:Tab)(u v:Value)(A C c:Nat)(hE:aM w gw gv gr gd gm gt gk ge g s l m T)(hT:TB w)(h1:s+(c:Int)<=576460752303423488)(h2:0<=l)(h3:l<=900)
  (h:nX w gw gv gr gd gm gt gk ge g s l T c W) (hu:bh W u A) (hv:bh W v C) (hC:0<C) (wA:wl A<=250):
  Calls Tryz.prog 55 #[.pointer (some ⟨gv,0,none⟩),u,v] W fun e w'=>∃ q r,e=.returned (.tuple #[q,r,.int .i64 0])/\ah w.heap.size w' q (A/C)/\ah w.heap.size w' r (A%C)/\nX w gw gv gr gd gm gt gk ge g s l T (c+4294967296) w'/\PW W w':=by
 obtain⟨s',m',E,k,o⟩:=h
 have hq:wl A*wl A<=250*250:=Nat.mul_le_mul wA wA
 refine(vE W gv gr gd gm gt gk ge g s' l m' T u v A C E.div (hE.tb o hT) k.1 (by omega) h2 (by omega) hu hv hC (by omega)).mono ?_
 rintro e w' ⟨q,r,gq,gx,s2,m2,k1,k2,k3,⟨k4,k5,k6⟩,k7,k8,k9,k0,k11,k12⟩
 have sz:=o.size
 exact⟨q,r,k1,k2.toW.mono (by omega),k3.toW.mono (by omega),⟨s2,m2,E.kept k12 k7,⟨by omega,by omega⟩,o.trans k12⟩,E.kp k12⟩
end Go.Proofs.YtgcnhfgpflncaaaGreatDoor
/- An engine of root at work,and the rows that live. Written by gen_g.py. -/
namespace Go.Proofs.YtgcnhfgpflncaaaGreatDoor
open Go.RowKit
def aw(w:World)(gw gv gr gd gm gt gk ge g:Nat)(s l:Int)(T:Tab)(c:Nat)(L:List (Value×Nat))(W:World):Prop:=
 nX w gw gv gr gd gm gt gk ge g s l T c W/\∀ p,p ∈ L->ah w.heap.size W p.1 p.2
section
variable {w W W' : World} {gw gv gr gd gm gt gk ge g : Nat} {s l m : Int} {T : Tab} {c : Nat} {L : List (Value × Nat)}
theorem aw.way(h:aw w gw gv gr gd gm gt gk ge g s l T c L W):W.cell? ⟨gw,0,none⟩=some (.pointer (some ⟨gv,0,none⟩))/\W.cell? ⟨gv,0,none⟩=some (.pointer (some ⟨gr,0,none⟩))/\W.cell? ⟨gr,0,none⟩=some (.pointer (some ⟨gd,0,none⟩))/\W.cell? ⟨gd,0,none⟩=some (.pointer (some ⟨gm,0,none⟩)):=h.1.way
theorem aw.next(h:aw w gw gv gr gd gm gt gk ge g s l T c L W)(b:Below W.heap.size W W'):aw w gw gv gr gd gm gt gk ge g s l T c L W':=⟨h.1.next b,fun p hp=>(h.2 p hp).next b⟩
theorem aw.g0{v:Value}{n:Nat}(h:aw w gw gv gr gd gm gt gk ge g s l T c ((v,n) :: L) W):ah w.heap.size W v n:=h.2 (v,n) (.head _)
theorem aw.g1{p0:Value×Nat}{v:Value}{n:Nat}(h:aw w gw gv gr gd gm gt gk ge g s l T c (p0 :: (v,n) :: L) W):ah w.heap.size W v n:=h.2 (v,n) (.tail _ (.head _))
theorem aw.g2{p0 p1:Value×Nat}{v:Value}{n:Nat}(h:aw w gw gv gr gd gm gt gk ge g s l T c (p0 :: p1 :: (v,n) :: L) W):ah w.heap.size W v n:=h.2 (v,n) (.tail _ (.tail _ (.head _)))
theorem aw.g3{p0 p1 p2:Value×Nat}{v:Value}{n:Nat}(h:aw w gw gv gr gd gm gt gk ge g s l T c (p0 :: p1 :: p2 :: (v,n) :: L) W):ah w.heap.size W v n:=h.2 (v,n) (.tail _ (.tail _ (.tail _ (.head _))))
theorem aw.sub{L':List (Value×Nat)}(h:aw w gw gv gr gd gm gt gk ge g s l T c L W)(hs:∀ p,p ∈ L'->p ∈ L):aw w gw gv gr gd gm gt gk ge g s l T c L' W:=⟨h.1,fun p hp=>h.2 p (hs p hp)⟩
theorem aw.inW(hE:aM w gw gv gr gd gm gt gk ge g s l m T)(h:aw w gw gv gr gd gm gt gk ge g s l T c L W){v:Value}{n:Nat}(r:aL w v n):aL W v n:=hE.inW h.1.out r
theorem aw.call(h:aw w gw gv gr gd gm gt gk ge g s l T c L W){f:FuncId}{av:Array Value}{N:Nat}{W0:World}(C:Calls Tryz.prog f av W0 fun e w'=>∃ r,e=.returned r/\ah W.heap.size w' r N/\Below W.heap.size W w'):
  Calls Tryz.prog f av W0 fun e w'=>∃ ga la ca,e=.returned (.slice ga la ca)/\aw w gw gv gr gd gm gt gk ge g s l T c ((.slice ga la ca,N) :: L) w':=by
 refine C.mono ?_
 rintro e w' ⟨r,rfl,nr,b⟩
 have nr':=nr.mono h.1.out.size
 obtain⟨ga,la,ca,rfl⟩:=nr.shape
 refine⟨ga,la,ca,rfl,h.1.next b,fun p hp=>?_⟩
 rcases List.mem_cons.1 hp with rfl|hp
 ·exact nr'
 ·exact(h.2 p hp).next b
theorem aw.sqr(hE:aM w gw gv gr gd gm gt gk ge g s l m T)(hT:TB w)(h2:0<=l)(h3:l<=900)(h:aw w gw gv gr gd gm gt gk ge g s l T c L W)(h1:s+(c:Int)<=576460752303423488){u:Value}{A:Nat}(hu:bh W u A):
  Calls Tryz.prog 58 #[.pointer (some ⟨gm,0,none⟩),u] W fun e w'=>∃ ga la ca,e=.returned (.slice ga la ca)/\aw w gw gv gr gd gm gt gk ge g s l T (c+4294967296) ((.slice ga la ca,A*A) :: L) w':=by
 refine(GK w W gw gv gr gd gm gt gk ge g s l m T u A c hE hT h1 h2 h3 h.1 hu).mono ?_
 rintro e w' ⟨r,rfl,nr,k,kp⟩
 obtain⟨ga,la,ca,rfl⟩:=nr.shape
 refine⟨ga,la,ca,rfl,k,fun p hp=>?_⟩
 rcases List.mem_cons.1 hp with rfl|hp
 ·exact nr
 ·exact kp.1 _ _ _ (h.2 p hp)
theorem aw.mul(hE:aM w gw gv gr gd gm gt gk ge g s l m T)(hT:TB w)(h2:0<=l)(h3:l<=900)(h:aw w gw gv gr gd gm gt gk ge g s l T c L W)(h1:s+(c:Int)<=576460752303423488){u v:Value}{A C:Nat}(hu:bh W u A)(hv:bh W v C):
  Calls Tryz.prog 65 #[.pointer (some ⟨gm,0,none⟩),u,v] W fun e w'=>∃ ga la ca,e=.returned (.slice ga la ca)/\aw w gw gv gr gd gm gt gk ge g s l T (c+4294967296) ((.slice ga la ca,A*C) :: L) w':=by
 refine(GH w W gw gv gr gd gm gt gk ge g s l m T u v A C c hE hT h1 h2 h3 h.1 hu hv).mono ?_
 rintro e w' ⟨r,rfl,nr,k,kp⟩
 obtain⟨ga,la,ca,rfl⟩:=nr.shape
 refine⟨ga,la,ca,rfl,k,fun p hp=>?_⟩
 rcases List.mem_cons.1 hp with rfl|hp
 ·exact nr
 ·exact kp.1 _ _ _ (h.2 p hp)
theorem aw.div(hE:aM w gw gv gr gd gm gt gk ge g s l m T)(hT:TB w)(h2:0<=l)(h3:l<=900)(h:aw w gw gv gr gd gm gt gk ge g s l T c L W)(h1:s+(c:Int)<=576460752303423488){u v:Value}{A C:Nat}(hu:bh W u A)(hv:bh W v C)(hC:0<C)(wA:wl A<=250):
  Calls Tryz.prog 55 #[.pointer (some ⟨gv,0,none⟩),u,v] W fun e w'=>∃ ga la ca gb lb cb,e=.returned (.tuple #[.slice ga la ca,.slice gb lb cb,.int .i64 0])/\aw w gw gv gr gd gm gt gk ge g s l T (c+4294967296) ((.slice ga la ca,A/C) :: (.slice gb lb cb,A%C) :: L) w':=by
 refine(GF w W gw gv gr gd gm gt gk ge g s l m T u v A C c hE hT h1 h2 h3 h.1 hu hv hC wA).mono ?_
 rintro e w' ⟨q,r,rfl,nq,nr,k,kp⟩
 obtain⟨ga,la,ca,rfl⟩:=nq.shape
 obtain⟨gb,lb,cb,rfl⟩:=nr.shape
 refine⟨ga,la,ca,gb,lb,cb,rfl,k,fun p hp=>?_⟩
 rcases List.mem_cons.1 hp with rfl|hp
 ·exact nq
 rcases List.mem_cons.1 hp with rfl|hp
 ·exact nr
 ·exact kp.1 _ _ _ (h.2 p hp)
end
def dQ(w:World)(gw gv gr gd gm gt gk ge g:Nat)(s l:Int)(T:Tab)(A c:Nat)(e:Ending)(w':World):Prop:=
 ∃ q r gq gx S,e=.returned (.tuple #[q,r])/\bU 2 A S/\aS gq (gq+1) w' q S/\aS gx (gx+1) w' r (A-S*S)/\(gq≠gx/\w.heap.size<=gq/\w.heap.size<=gx)/\nX w gw gv gr gd gm gt gk ge g s l T c w'
theorem zd(w:World)(u v x y:Value)(m n p q t:Nat)(hu:aL w u m)(hv:aL w v n)(hx:aL w x p)(hy:aL w y q):ju (w.alloc (.cells #[u,v,x,y] t)) (some ⟨w.heap.size,0,none⟩) w.heap.size 0 [u,v,x,y] [m,n,p,q]:=by
 have hb:Below w.heap.size w (w.alloc (.cells #[u,v,x,y] t)):=(Below.refl _ _).alloc (Nat.le_refl _) _
 refine⟨fun _=>rfl,rfl,fun j hj=>?_,fun j hj=>?_⟩
 ·have hj2:j<4:=hj
  rw[Nat.zero_add,cell_of_row _ w.heap.size j #[u,v,x,y] t (0,0) (heap_alloc_new w _)]
  match j,hj2 with
  |0,_=>rfl
  |1,_=>rfl
  |2,_=>rfl
  |3,_=>rfl
 ·have hj2:j<4:=hj
  match j,hj2 with
  |0,_=>exact hu.next hb
  |1,_=>exact hv.next hb
  |2,_=>exact hx.next hb
  |3,_=>exact hy.next hb
theorem Jf(w:World)(u v x y:Value)(m n p q:Nat)(hu:aL w u m)(hv:aL w v n)(hx:aL w x p)(hy:aL w y q):
  Calls Tryz.prog 59 #[.slice (some ⟨w.heap.size,0,none⟩) 4 4] (w.alloc (.cells #[u,v,x,y] 29)) fun e w'=>∃ r,e=.returned r/\ah w.heap.size w' r (m+n+p+q)/\Below w.heap.size w w':=by
 have hb:Below w.heap.size w (w.alloc (.cells #[u,v,x,y] 29)):=(Below.refl _ _).alloc (Nat.le_refl _) _
 refine(Nw _ _ _ _ 4 4 _ _ rfl (by omega) (zd w u v x y m n p q 29 hu hv hx hy)).mono ?_
 rintro e w' ⟨r,rfl,hr,h⟩
 have e3:dV 0 [m,n,p,q] 4=m+n+p+q:=by
  rw[bj,bj,bj,bj];simp[dV]
 rw[e3]at hr
 exact⟨r,rfl,hr.mono hb.size,ag hb h⟩
end Go.Proofs.YtgcnhfgpflncaaaGreatDoor
/- power of the landed package root;the square root of a word. Written by gen_g.py. -/
namespace Go.Proofs.YtgcnhfgpflncaaaGreatDoor
open Go.RowKit
theorem mJ(a b:Nat)(ha:a<9223372036854775808)(hb:b<9223372036854775808):bits .and .i64 (a:Int) (b:Int)=((a&&& b:Nat):Int):=by
 have hx:a&&& b<2^63:=Nat.and_lt_two_pow _ (by omega)
 have h1:(BitVec.ofInt 64 (a:Int)).toNat=a:=by
  rw[BitVec.ofInt_natCast,BitVec.toNat_ofNat];exact Nat.mod_eq_of_lt (by omega)
 have h2:(BitVec.ofInt 64 (b:Int)).toNat=b:=by
  rw[BitVec.ofInt_natCast,BitVec.toNat_ofNat];exact Nat.mod_eq_of_lt (by omega)
 show IntKind.i64.wrap ((BitVec.ofInt 64 (a:Int)&&& BitVec.ofInt 64 (b:Int)).toNat:Int)=_
 rw[BitVec.toNat_and,h1,h2,IntKind.wrap_i64]
 omega
theorem qV:∀ k:Fin 65,k.val<2^Lib.bitLen k.val/\Lib.bitLen k.val<=7/\(0<k.val->1<=Lib.bitLen k.val):=by decide+kernel
set_option maxRecDepth 100000 in
set_option maxHeartbeats 3200000 in
theorem pg(w:World)(gw gv gr gd gm gt gk ge g:Nat)(s l m:Int)(T:Tab)(W:World)(u:Value)(x k c:Nat)(L:List (Value×Nat))
  (hE:aM w gw gv gr gd gm gt gk ge g s l m T) (hT:TB w) (h1:s+((c+549755813888:Nat):Int)<=576460752303423488) (h2:0<=l) (h3:l<=900) (hG:aw w gw gv gr gd gm gt gk ge g s l T c L W) (hu:(u,x) ∈ L) (wx:wl x<=16384) (hk0:0<k) (hk:k<=64) (wX:wl (x^k)<=240):
  Calls Tryz.prog 44 #[.pointer (some ⟨gw,0,none⟩),u,.int .i64 (k:Int)] W fun e w'=>∃ ga la ca,e=.returned (.slice ga la ca)/\aw w gw gv gr gd gm gt gk ge g s l T (c+549755813888) ((.slice ga la ca,x^k) :: L) w':=by
 obtain⟨hB1,hB2,hB3⟩:=qV ⟨k,by omega⟩
 simp only at hB1 hB2 hB3
 have hB3:=hB3 hk0
 have CB:=hide (fun w=>gJ (k:Int) w (by omega) (by omega))
 rw[Int.toNat_natCast]at CB
 obtain⟨B,hB⟩:∃ B,B=Lib.bitLen k:=⟨_,rfl⟩
 rw[<-hB]at hB1 hB2 hB3 CB
 obtain⟨F,hF⟩:∃ F:Nat->Nat,F=fun i=>x^(k/2^i):=⟨_,rfl⟩
 have HF0:Hid (1=F B):=by show _=_;rw[hF];simp only;rw[Nat.div_eq_of_lt hB1,Nat.pow_zero]
 have HFk:Hid (F 0=x^k):=by show _=_;rw[hF];simp only;rw[Nat.pow_zero,Nat.div_one]
 have HF1:Hid (∀ i,k/2^i%2=1->F (i+1)*F (i+1)*x=F i):=fun i h=>by rw[hF];simp only;rw[Ax x k i,h,Nat.pow_one]
 have HF2:Hid (∀ i,k/2^i%2=0->F (i+1)*F (i+1)=F i):=fun i h=>by rw[hF];simp only;rw[Ax x k i,h,Nat.pow_zero,Nat.mul_one]
 have wP:∀ e,e<=k->wl (x^e)<=250:=fun e he=>by
  have h1:=Ix (x:=x) he
  have h2:wl (x^k+1)<=241:=by
   refine bQ _ _ ?_
   have h3:=dw wX
   rw[show(241:Nat)=240+1 from rfl,Nat.pow_succ]
   generalize 18446744073709551616^240=Z at *
   omega
  have:=aH h1
  omega
 have HW:Hid (∀ i,wl (F i)<=16384):=fun i=>by rw[hF];exact Nat.le_trans (wP _ (Nat.div_le_self _ _)) (by decide)
 have HW2:Hid (∀ i,wl (F (i+1)*F (i+1))<=16384):=fun i=>by
  rw[hF]
  simp only
  rw[<-Nat.pow_add]
  refine Nat.le_trans (wP _ ?_) (by decide)
  rw[Nat.pow_succ, <-Nat.div_div_eq_div_mul]
  have:=Nat.div_le_self k (2^i)
  omega
 have CO:Hid (∀ W,aw w gw gv gr gd gm gt gk ge g s l T c L W->Calls Tryz.prog 34 #[.int .u64 1] W fun e w'=>∃ ga la ca,e=.returned (.slice ga la ca)/\aw w gw gv gr gd gm gt gk ge g s l T c ((.slice ga la ca,1) :: L) w'):=fun W h=>h.call (kK W 1 (by decide))
 have CS:Hid (∀ W y q d,aw w gw gv gr gd gm gt gk ge g s l T d ((y,q) :: L) W->d<=c+120000000000->wl q<=16384->Calls Tryz.prog 58 #[.pointer (some ⟨gm,0,none⟩),y] W fun e w'=>∃ ga la ca,e=.returned (.slice ga la ca)/\aw w gw gv gr gd gm gt gk ge g s l T (d+4294967296) ((.slice ga la ca,q*q) :: L) w'):=fun W y q d h hd hq=>(aw.sub (L':=L) h (fun p hp=>.tail _ hp)).sqr hE hT h2 h3 (by omega) (h.g0.wlM hq)
 have CM:Hid (∀ W y q d,aw w gw gv gr gd gm gt gk ge g s l T d ((y,q) :: L) W->d<=c+120000000000->wl q<=16384->Calls Tryz.prog 65 #[.pointer (some ⟨gm,0,none⟩),y,u] W fun e w'=>∃ ga la ca,e=.returned (.slice ga la ca)/\aw w gw gv gr gd gm gt gk ge g s l T (d+4294967296) ((.slice ga la ca,q*x) :: L) w'):=fun W y q d h hd hq=>(aw.sub (L':=L) h (fun p hp=>.tail _ hp)).mul hE hT h2 h3 (by omega) (h.g0.wlM hq) ((h.2 _ (.tail _ hu)).wlM wx)
 have HU:Hid (∀ W q d ga la ca,aw w gw gv gr gd gm gt gk ge g s l T d ((.slice ga la ca,F 0) :: L) W->d<=c+8589934592*(B-q)->aw w gw gv gr gd gm gt gk ge g s l T (c+549755813888) ((.slice ga la ca,x^k) :: L) W):=fun W q d ga la ca h hd=>by
  rw[<-ae HFk]
  exact⟨h.1.up (by omega),h.2⟩
 have hki:((k:Int):Int)<9223372036854775808:=by omega
 have hkw:IntKind.u64.wrap (k:Int)=(k:Int):=by rw[IntKind.wrap_u64];omega
 obtain⟨ua,ul,uc,rfl⟩:=(hG.2 _ hu).shape
 clear hE hT h1 h2 h3 hu wx wX hB1 hB hF HFk wP
 generalize x^k=XK at *
 obtain⟨PG,hPG⟩:∃ PG,PG=aw w gw gv gr gd gm gt gk ge g s l T:=⟨_,rfl⟩
 have HWY:Hid (∀ d l W,PG d l W->W.cell? ⟨gw,0,none⟩=some (.pointer (some ⟨gv,0,none⟩))/\W.cell? ⟨gv,0,none⟩=some (.pointer (some ⟨gr,0,none⟩))/\W.cell? ⟨gr,0,none⟩=some (.pointer (some ⟨gd,0,none⟩))/\W.cell? ⟨gd,0,none⟩=some (.pointer (some ⟨gm,0,none⟩))):=fun d l W h=>by rw[hPG]at h;exact h.way
 rw[<-hPG]at hG CO CS CM HU ⊢
 clear hPG
 go_enter Tryz.func44,Tryz.ntmps44
 go_wp2_with fail
 with_reducible refine(ae CO _ hG).mono ?_
 rintro e w1 ⟨oa,ol,oc,rfl,hG⟩
 rw[ae HF0]at hG
 have HG:=hide hG
 clear hG CO HF0
 go_wp2_with fail
 refine(ae CB _).mono ?_
 rintro e w2 ⟨rfl,hw⟩
 obtain rfl:=hw.symm
 clear hw CB
 have ib:IntKind.i64.wrap ((B:Int)-1)=(B:Int)-1:=by rw[IntKind.wrap_i64];omega
 go_wp2
 go_loopw [7,8] (fun pv iv wr=>∃(q d:Nat) (pa:Option Addr) (pl pc:Nat),q<=B/\iv=.int .i64 ((q:Int)-1)/\pv=.slice pa pl pc/\d<=c+8589934592*(B-q)/\Hid (PG d ((.slice pa pl pc,F q) :: L) wr)) (fun _ iv _=>(intOf iv+1).toNat)
 case atStart=>exact⟨B,c,oa,ol,oc,Nat.le_refl _,rfl,rfl,by omega,HG⟩
 case round=>
  obtain⟨q,d,pa,pl,pc,hq,rfl,rfl,hd,hP⟩:=hrel
  by_cases hk0:q=0
  ·subst hk0
   have HX:=hide (ae HU _ _ _ _ _ _ (ae hP) hd)
   clear hP HU HF1 HF2 HW HW2 CS CM HG HWY
   go_wp2
   go_ret
   exact⟨_,_,_,rfl,ae HX⟩
  ·obtain⟨j,rfl⟩:∃ j,q=j+1:=⟨q-1,by omega⟩
   have ej:((j+1:Nat):Int)-1=(j:Int):=by omega
   rw[ej]
   have es:=fC k j
   have hy:k/2^j<9223372036854775808:=Nat.lt_of_le_of_lt (Nat.div_le_self _ _) (by omega)
   have hm:=mJ (k/2^j) 1 hy (by omega)
   have e1:k/2^j&&& 1=k/2^j%2:=Nat.and_one_is_mod _
   rw[e1]at hm
   clear e1
   obtain⟨y,hyy⟩:∃ y,y=k/2^j:=⟨_,rfl⟩
   obtain⟨e0,e1,e2,e3⟩:=ae HWY _ _ _ (ae hP)
   have CS:=hide (ae CS _ _ _ _ (ae hP) (by omega) (ae HW _))
   have WW:=hide (ae HW2 j)
   by_cases h1:k/2^j%2=1
   ·have e:=ae HF1 j h1
    have HEE:=hide e
    rw[h1]at hm
    rw[<-hyy]at hm es hy
    have hm1:bits .and .i64 (y:Int) 1=1:=hm
    clear e h1 hP HF1 HF2 HW HW2 hm hyy HG HU
    go_wp2_with fail
    with_reducible refine(ae CS).mono ?_
    rintro e w3 ⟨ra,rl,rc,rfl,hG⟩
    clear e0 e1 e2 e3
    obtain⟨e0,e1,e2,e3⟩:=ae HWY _ _ _ hG
    have CM:=hide (ae CM _ _ _ _ hG (by omega) (ae WW))
    clear hG
    go_wp2_with fail
    with_reducible refine(ae CM).mono ?_
    rintro e w4 ⟨ra,rl,rc,rfl,hG⟩
    rw[ae HEE]at hG
    have HG:=hide hG
    clear hG CM CS e0 e1 e2 e3
    go_wp2
    go_roundw
    case rel=>exact⟨j,_,_,_,_,by omega,by go_num,rfl,by omega,HG⟩
    case measure=>simp[intOf]
   ·have h1:k/2^j%2=0:=by omega
    have e:=ae HF2 j h1
    have HEE:=hide e
    rw[h1]at hm
    rw[<-hyy]at hm es hy
    have hm1:bits .and .i64 (y:Int) 1=0:=hm
    clear e h1 hP HF1 HF2 HW HW2 hm hyy HG HU CM
    go_wp2_with fail
    with_reducible refine(ae CS).mono ?_
    rintro e w3 ⟨ra,rl,rc,rfl,hG⟩
    rw[ae HEE]at hG
    have HG:=hide hG
    clear hG CS e0 e1 e2 e3
    go_wp2
    go_roundw
    case rel=>exact⟨j,_,_,_,_,by omega,by go_num,rfl,by omega,HG⟩
    case measure=>simp[intOf]
end Go.Proofs.YtgcnhfgpflncaaaGreatDoor
/- byDigits of the landed package root. Written by gen_g.py. -/
namespace Go.Proofs.YtgcnhfgpflncaaaGreatDoor
open Go.RowKit
set_option maxRecDepth 100000 in
set_option maxHeartbeats 3200000 in
theorem GB(w:World)(gw gv gr gd gm gt gk ge g:Nat)(s l m:Int)(T:Tab)(W:World)(a:Value)(A S d k c:Nat)
  (hE:aM w gw gv gr gd gm gt gk ge g s l m T) (hT:TB w) (h1:s+((c+8246337208320:Nat):Int)<=576460752303423488) (h2:0<=l) (h3:l<=900) (hG:aw w gw gv gr gd gm gt gk ge g s l T c [] W) (ha:bh w a A) (hk0:0<k) (hk:k<=64) (hd:d<=13) (hA:A<2^(d*k)) (hS:bU k A S):
  Calls Tryz.prog 61 #[.pointer (some ⟨gw,0,none⟩),a,.int .i64 (d:Int),.int .i64 (k:Int)] W fun e w'=>∃ ga la ca,e=.returned (.slice ga la ca)/\aw w gw gv gr gd gm gt gk ge g s l T (c+8246337208320) [(.slice ga la ca,S)] w':=by
 have H0:=hide (IM hk0 hA)
 have HS:=hide hS
 have h13:∀ q,q<=13->2^q<=8192:=fun q hq=>by
  have:=Nat.pow_le_pow_right (n:=2) (by omega) hq
  omega
 have wPk:∀ x,x<=8192->wl (x^k)<=240:=fun x hx=>by
  refine bQ _ _ (Nat.lt_of_le_of_lt (Nat.pow_le_pow_left hx k) ?_)
  obtain⟨Z,hZ⟩:∃ Z,Z=64*240:=⟨_,rfl⟩
  rw[show(8192:Nat)=2^13 by decide, <-Nat.pow_mul,show(18446744073709551616:Nat)=2^64 by decide, <-Nat.pow_mul, <-hZ]
  exact Nat.pow_lt_pow_right (by decide) (by omega)
 have wx:∀ x,x<=8192->wl x<=16384:=fun x hx=>Nat.le_trans (bQ 1 x (by simp;omega)) (by decide)
 have CO:Hid (∀ W (x c2:Nat),x<=8192->aw w gw gv gr gd gm gt gk ge g s l T c2 [] W->Calls Tryz.prog 34 #[.int .u64 (x:Int)] W fun e w'=>∃ ga la ca,e=.returned (.slice ga la ca)/\aw w gw gv gr gd gm gt gk ge g s l T c2 [(.slice ga la ca,x)] w'):=fun W x c2 hx h=>h.call (kK W x (by omega))
 have CP:Hid (∀ W y (x c2:Nat),x<=8192->c2<=c+7600000000000->aw w gw gv gr gd gm gt gk ge g s l T c2 [(y,x)] W->Calls Tryz.prog 44 #[.pointer (some ⟨gw,0,none⟩),y,.int .i64 (k:Int)] W fun e w'=>∃ ga la ca,e=.returned (.slice ga la ca)/\aw w gw gv gr gd gm gt gk ge g s l T (c2+549755813888) [(.slice ga la ca,x^k),(y,x)] w'):=fun W y x c2 hx hc h=>pg w gw gv gr gd gm gt gk ge g s l m T W y x k c2 _ hE hT (by omega) h2 h3 h (.head _) (wx x hx) hk0 hk (wPk x hx)
 have CC:Hid (∀ W y z (x c2:Nat),x<=8192->aw w gw gv gr gd gm gt gk ge g s l T c2 [(z,x^k),(y,x)] W->Calls Tryz.prog 43 #[z,a] W fun e w'=>e=.returned (.int .i64 (aV (x^k) A))/\aw w gw gv gr gd gm gt gk ge g s l T c2 [] w'):=fun W y z x c2 hx h=>(lQ W z a _ _ (h.g0.wlW (Nat.le_trans (wPk x hx) (by decide))) (h.inW hE ha.inW)).mono fun e w' k=>⟨k.1,(h.next k.2).sub (by simp)⟩
 have HU:Hid (∀ W q c2 ga la ca,aw w gw gv gr gd gm gt gk ge g s l T c2 [(.slice ga la ca,S)] W->c2=c+549755813888*(d-q)->aw w gw gv gr gd gm gt gk ge g s l T (c+8246337208320) [(.slice ga la ca,S)] W):=fun W q c2 ga la ca h he=>⟨h.1.up (by omega),h.2⟩
 obtain⟨ga,la,ca,rfl⟩:=ha.inW.is
 have H13:=hide h13
 have hdn:(0:Int)<=(d:Int):=by omega
 have i0:IntKind.u64.wrap (((2:Int)^d))=((2^d:Nat):Int):=by
  have:=h13 d hd
  rw[fq,IntKind.wrap_u64]
  generalize 2^d=p at *
  omega
 have i1:min d 64=d:=by omega
 have i2:=fq d
 clear hE hT h1 h2 h3 ha hk0 hk hA hS wPk wx h13
 obtain⟨PG,hPG⟩:∃ PG,PG=aw w gw gv gr gd gm gt gk ge g s l T:=⟨_,rfl⟩
 rw[<-hPG]at hG CO CP CC HU ⊢
 clear hPG
 obtain⟨N0,hN0⟩:∃ N0,N0=2^d:=⟨_,rfl⟩
 have HN:=hide hN0
 have hN1:N0<=8192:=by rw[hN0];exact ae H13 d hd
 rw[<-hN0]at i0 i2
 have j1:IntKind.u64.wrap (N0:Int)=(N0:Int):=by rw[IntKind.wrap_u64];omega
 obtain⟨D0,hD0⟩:∃ D0,D0=N0/2:=⟨_,rfl⟩
 have j2:(N0:Int)/2=(D0:Int):=by omega
 have j3:IntKind.u64.wrap (D0:Int)=(D0:Int):=by rw[IntKind.wrap_u64];omega
 have HD:Hid (D0=2^d/2):=by show _=_;rw[hD0,hN0]
 clear hN0 hD0
 have HG:=hide hG
 clear hG
 go_enter Tryz.func61,Tryz.ntmps61
 go_wp2
 go_loopw [9,10] (fun xv dv wr=>∃(q x D c2:Nat),q<=d/\x+2^q<=2^d/\D=2^q/2/\xv=.int .u64 (x:Int)/\dv=.int .u64 (D:Int)/\c2=c+549755813888*(d-q)/\Hid (oJ k A q x)/\Hid (PG c2 [] wr)) (fun _ dv _=>(intOf dv).toNat)
 case atStart=>exact⟨d,0,D0,c,Nat.le_refl _,by omega,ae HD,rfl,rfl,by omega,H0,HG⟩
 case round=>
  obtain⟨q,x,D,c2,hq,hx,hD,rfl,rfl,hc2,hAt,hP⟩:=hrel
  have hN8:=ae H13 d hd
  rcases Nat.eq_zero_or_pos q with rfl|hq0
  ·obtain rfl:D=0:=by rw[hD]
   have e:=ln (IP (ae hAt)) (ae HS)
   subst e
   have CO1:=hide (ae CO _ x c2 (by omega) (ae hP))
   clear hP CO CP CC hAt HS H0 HG hx hD
   go_wp2_with fail
   with_reducible refine(ae CO1).mono ?_
   rintro e w4 ⟨ra,rl,rc,rfl,hG⟩
   have HX:=hide (ae HU _ _ _ _ _ _ hG hc2)
   clear hG CO1 HU
   go_wp2
   go_ret
   exact⟨_,_,_,rfl,ae HX⟩
  ·obtain⟨i,rfl⟩:∃ i,q=i+1:=⟨q-1,by omega⟩
   have eD:D=2^i:=by rw[hD,Nat.pow_succ,Nat.mul_div_cancel _ (by decide)]
   have hp2:2^(i+1)=2^i+2^i:=by rw[Nat.pow_succ];omega
   have hDp:0<D:=by rw[eD];exact Nat.two_pow_pos i
   rw[hp2, <-eD]at hx
   obtain⟨t,ht⟩:∃ t,t=x+D:=⟨_,rfl⟩
   obtain⟨E,hE⟩:∃ E,E=D/2:=⟨_,rfl⟩
   have ht8:t<=8192:=by omega
   have HY:=hide (fun(hy:t^k<=A)=>(by have:=IU (ae hAt) (by rw[<-eD, <-ht];exact hy);rw[<-eD, <-ht]at this;exact this:oJ k A i t))
   have PX:=hide (fun(hy:¬t^k<=A)=>Nr (ae hAt) (by rw[<-eD, <-ht];exact hy))
   have HE2:Hid (E=2^i/2):=by show _=_;rw[hE,eD]
   have HXD:Hid (t+2^i<=2^d/\x+2^i<=2^d):=by show _/\_;rw[<-eD];omega
   have k1:(x:Int)+(D:Int)=(t:Int):=by omega
   have k2:IntKind.u64.wrap (t:Int)=(t:Int):=by rw[IntKind.wrap_u64];omega
   have k3:(D:Int)/2=(E:Int):=by omega
   have k4:IntKind.u64.wrap (E:Int)=(E:Int):=by rw[IntKind.wrap_u64];omega
   have k5:(0:Int)<(D:Int):=by omega
   have HM:Hid (E<D):=by show _<_;omega
   have CO1:=hide (ae CO _ t c2 ht8 (ae hP))
   have CP1:=hide (fun W y=>ae CP W y t c2 ht8 (by omega))
   have CC1:=hide (fun W y z=>ae CC W y z t (c2+549755813888) ht8)
   have hc3:c2+549755813888=c+549755813888*(d-i):=by omega
   clear hP CO CP CC hAt HU HG hx hD eD hp2 ht hE hDp ht8
   go_wp2_with fail
   with_reducible refine(ae CO1).mono ?_
   rintro e w4 ⟨ra,rl,rc,rfl,hG⟩
   have CP1:=hide (ae CP1 _ _ hG)
   clear hG CO1
   go_wp2_with fail
   with_reducible refine(ae CP1).mono ?_
   rintro e w5 ⟨sa,sl,sc,rfl,hG⟩
   have CC1:=hide (ae CC1 _ _ _ hG)
   clear hG CP1
   go_wp2_with fail
   with_reducible refine(ae CC1).mono ?_
   rintro e w6 ⟨rfl,hG⟩
   have HG:=hide hG
   clear hG CC1
   by_cases hc:t^k<=A
   ·have HR:=hide (ae HY hc)
    have hcv:aV (t^k) A<=0:=by unfold aV;split<;>(try split)<;>omega
    clear HY PX hc
    generalize aV (t^k) A=cv at *
    go_wp2
    go_roundw
    case rel=>exact⟨i,t,E,_,by omega,(ae HXD).1,ae HE2,rfl,rfl,hc3,HR,HG⟩
    case measure=>simp[intOf];exact ae HM
   ·have HR:=hide (ae PX hc)
    have hcv:¬aV (t^k) A<=0:=by rw[cJ (by omega)];decide
    clear HY PX hc
    generalize aV (t^k) A=cv at *
    go_wp2
    go_roundw
    case rel=>exact⟨i,x,E,_,by omega,(ae HXD).2,ae HE2,rfl,rfl,hc3,HR,HG⟩
    case measure=>simp[intOf];exact ae HM
end Go.Proofs.YtgcnhfgpflncaaaGreatDoor
/- byDigits and step of the landed package root. Written by gen_g.py. -/
namespace Go.Proofs.YtgcnhfgpflncaaaGreatDoor
open Go.RowKit
theorem Jy{S k p:Nat}{A:Nat}(h:bU k A S)(hk:k<=64)(wA:wl A<=p):wl ((S+1)^k)<=p+2:=by
 have hA:=dw wA
 have h1:(S+1)^k<=18446744073709551616*(A+1):=by
  rcases Nat.eq_zero_or_pos S with e|e
  ·rw[e,Nat.zero_add,Nat.one_pow];omega
  ·have a1:(S+1)^k<=(2*S)^k:=Nat.pow_le_pow_left (by omega) k
   rw[Nat.mul_pow]at a1
   have a2:2^k*S^k<=2^64*A:=Nat.mul_le_mul (Nat.pow_le_pow_right (by decide) hk) h.1
   omega
 refine bQ _ _ ?_
 have h2:18446744073709551616^(p+2)=18446744073709551616^p*18446744073709551616*18446744073709551616:=by rw[Nat.pow_succ,Nat.pow_succ]
 rw[h2]
 generalize 18446744073709551616^p=Z at *
 omega
theorem BO(w:World)(gw gv gr gd gm gt gk ge g:Nat)(s l m:Int)(T:Tab)(W:World)(a y:Value)(A Y h j k c:Nat)
  (hE:aM w gw gv gr gd gm gt gk ge g s l m T) (hT:TB w) (h1:s+((c+1099511627776:Nat):Int)<=576460752303423488) (h2:0<=l) (h3:l<=900) (hG:aw w gw gv gr gd gm gt gk ge g s l T c [(y,Y)] W) (ha:bh w a A) (wA:wl A<=240) (hY:0<Y) (wY:wl Y<=16384) (wYj:wl (Y^j)<=240) (hj:1<=j) (hk:k=j+1) (hk64:k<=64) (hhk:h*k<=1048576):
  Calls Tryz.prog 62 #[.pointer (some ⟨gw,0,none⟩),a,y,.int .i64 (h:Int),.int .i64 (k:Int)] W fun e w'=>∃ xa xl xc,e=.returned (.slice xa xl xc)/\aw w gw gv gr gd gm gt gk ge g s l T (c+1099511627776) [(.slice xa xl xc,(Y*2^h*j+A/2^(h*j)/Y^j)/(j+1))] w':=by
 obtain⟨hj2,hhj⟩:∃ hj2,hj2=h*j:=⟨_,rfl⟩
 have hjk:hj2<=1048576:=by rw[hhj];exact Nat.le_trans (Nat.mul_le_mul_left h (by omega)) hhk
 have hh:h<=1048576:=by
  rcases Nat.eq_zero_or_pos j with e|e
  ·omega
  ·exact Nat.le_trans (Nat.le_mul_of_pos_right h e) (by rw[<-hhj];exact hjk)
 obtain⟨B,hB⟩:∃ B,B=A/2^hj2:=⟨_,rfl⟩
 obtain⟨P,hP⟩:∃ P,P=Y^j:=⟨_,rfl⟩
 have hP0:0<P:=by rw[hP];exact Nat.pow_pos hY
 have wB:wl B<=240:=Nat.le_trans (aH (by rw[hB];exact Nat.div_le_self _ _)) wA
 obtain⟨Q,hQ⟩:∃ Q,Q=B/P:=⟨_,rfl⟩
 have wQ:wl Q<=240:=Nat.le_trans (aH (by rw[hQ];exact Nat.div_le_self _ _)) wB
 obtain⟨X0,hX0⟩:∃ X0,X0=Y*2^h:=⟨_,rfl⟩
 have wX0:wl X0<=100000:=by
  have a1:=gG Y (2^h)
  have a2:=cL (n:=2^h) (b:=h+1) (by rw[Nat.pow_succ];have:=Nat.two_pow_pos h;omega)
  rw[<-hX0]at a1
  omega
 obtain⟨Z,hZ⟩:∃ Z,Z=Q+X0*j:=⟨_,rfl⟩
 have wZ:wl Z<=1000000:=by
  have a1:=zJ Q (X0*j)
  have a2:=gG X0 j
  have a3:wl j<=1:=bQ 1 j (by simp;omega)
  rw[<-hZ]at a1
  omega
 have hR:(Y*2^h*j+A/2^(h*j)/Y^j)/(j+1)=Z/k:=by rw[<-hhj, <-hB, <-hP, <-hQ, <-hX0,hZ,Nat.add_comm,hk]
 rw[hR]
 rw[hP]at hQ hP0
 have CA:Hid (∀ W,aw w gw gv gr gd gm gt gk ge g s l T c [(y,Y)] W->Calls Tryz.prog 36 #[a,.int .i64 (hj2:Int)] W fun e w'=>∃ xa xl xc,e=.returned (.slice xa xl xc)/\aw w gw gv gr gd gm gt gk ge g s l T c [(.slice xa xl xc,B),(y,Y)] w'):=fun W h=>h.call (by rw[hB];exact gi W a hj2 A hj2 (by omega) (h.inW hE ha.inW))
 have CB:Hid (∀ W x,aw w gw gv gr gd gm gt gk ge g s l T c [(x,B),(y,Y)] W->Calls Tryz.prog 44 #[.pointer (some ⟨gw,0,none⟩),y,.int .i64 (j:Int)] W fun e w'=>∃ xa xl xc,e=.returned (.slice xa xl xc)/\aw w gw gv gr gd gm gt gk ge g s l T (c+549755813888) [(.slice xa xl xc,Y^j),(x,B),(y,Y)] w'):=fun W x h=>pg w gw gv gr gd gm gt gk ge g s l m T W y Y j c _ hE hT (by omega) h2 h3 h (.tail _ (.head _)) wY (by omega) (by omega) wYj
 have CC:Hid (∀ W x z,aw w gw gv gr gd gm gt gk ge g s l T (c+549755813888) [(z,Y^j),(x,B),(y,Y)] W->Calls Tryz.prog 55 #[.pointer (some ⟨gv,0,none⟩),x,z] W fun e w'=>∃ ga la ca gb lb cb,e=.returned (.tuple #[.slice ga la ca,.slice gb lb cb,.int .i64 0])/\aw w gw gv gr gd gm gt gk ge g s l T (c+549755813888+4294967296) [(.slice ga la ca,Q),(.slice gb lb cb,B%Y^j),(y,Y)] w'):=fun W x z h=>by
  rw[hQ]
  exact(aw.sub (L':=[(y,Y)]) h (by simp)).div hE hT h2 h3 (by omega) (h.g1.wlM (by omega)) (h.g0.wlM (by omega)) hP0 (by omega)
 have CD:Hid (∀ W x z,aw w gw gv gr gd gm gt gk ge g s l T (c+549755813888+4294967296) [(x,Q),(z,B%Y^j),(y,Y)] W->Calls Tryz.prog 57 #[y,.int .i64 (h:Int)] W fun e w'=>∃ xa xl xc,e=.returned (.slice xa xl xc)/\aw w gw gv gr gd gm gt gk ge g s l T (c+549755813888+4294967296) [(.slice xa xl xc,X0),(x,Q)] w'):=fun W x z hg=>(aw.sub (L':=[(x,Q)]) hg (by simp)).call (by rw[hX0];exact ir W y h Y h (by omega) (hg.g2.wlW (by omega)))
 have CE:Hid (∀ W x z,aw w gw gv gr gd gm gt gk ge g s l T (c+549755813888+4294967296) [(z,X0),(x,Q)] W->Calls Tryz.prog 81 #[x,z,.int .u64 (j:Int)] W fun e w'=>∃ xa xl xc,e=.returned (.slice xa xl xc)/\aw w gw gv gr gd gm gt gk ge g s l T (c+549755813888+4294967296) [(.slice xa xl xc,Z),(x,Q)] w'):=fun W x z hg=>(aw.sub (L':=[(x,Q)]) hg (by simp)).call (by rw[hZ];exact oQ W x z Q X0 j (by omega) (hg.g1.wlW (by omega)) (hg.g0.wlW (by omega)))
 have CF:Hid (∀ W x z,aw w gw gv gr gd gm gt gk ge g s l T (c+549755813888+4294967296) [(z,Z),(x,Q)] W->Calls Tryz.prog 80 #[z,.int .u64 (k:Int)] W fun e w'=>∃ xa xl xc,e=.returned (.tuple #[.slice xa xl xc,.int .u64 ((Z%k:Nat):Int),.int .i64 0])/\aw w gw gv gr gd gm gt gk ge g s l T (c+1099511627776) [(.slice xa xl xc,Z/k)] w'):=fun W x z hg=>(mN W z Z k (by omega) (by omega) (hg.g0.wlW (by omega))).mono fun e w' ⟨q,he,hn,hb⟩=>by
  have hn:=hn.mono hg.1.out.size
  obtain⟨xa,xl,xc,rfl⟩:=hn.shape
  refine⟨xa,xl,xc,he,(hg.1.next hb).up (by omega),fun p hp=>?_⟩
  rcases List.mem_cons.1 hp with rfl|hp
  ·exact hn
  ·cases hp
 obtain⟨ga,la,ca,rfl⟩:=ha.inW.is
 obtain⟨ya,yl,yc,rfl⟩:=hG.g0.shape
 have i1:(k:Int)-1=(j:Int):=by omega
 have i2:IntKind.i64.wrap (j:Int)=(j:Int):=by rw[IntKind.wrap_i64];omega
 have i3:(h:Int)*(j:Int)=(hj2:Int):=by rw[hhj];push_cast;rfl
 have i4:IntKind.i64.wrap (hj2:Int)=(hj2:Int):=by rw[IntKind.wrap_i64];omega
 have i5:IntKind.u64.wrap (j:Int)=(j:Int):=by rw[IntKind.wrap_u64];omega
 have i6:IntKind.u64.wrap (k:Int)=(k:Int):=by rw[IntKind.wrap_u64];omega
 have i7:(Z%k:Nat)<64+1:=Nat.lt_of_lt_of_le (Nat.mod_lt _ (by omega)) (by omega)
 clear hE hT h1 h2 h3 ha wA hY wY wYj hj hk hk64 hhk hjk hh hB hP hP0 wB hQ wQ hX0 wX0 hZ wZ hR hhj
 generalize Z/k=ZK at *
 generalize Z%k=ZR at *
 generalize Y^j=YJ at *
 obtain⟨PG,hPG⟩:∃ PG,PG=aw w gw gv gr gd gm gt gk ge g s l T:=⟨_,rfl⟩
 have HWY:Hid (∀ d l W,PG d l W->W.cell? ⟨gw,0,none⟩=some (.pointer (some ⟨gv,0,none⟩))):=fun d l W h=>by rw[hPG]at h;exact h.way.1
 have HNX:Hid (∀ d l W,PG d l W->PG d l W.drew):=fun d l W h=>by rw[hPG]at h ⊢;exact h.next (Below.refl _ _).drew
 rw[<-hPG]at hG CA CB CC CD CE CF ⊢
 clear hPG
 go_enter Tryz.func62,Tryz.ntmps62
 go_wp2_with fail
 have hG:=ae HNX _ _ _ hG
 have e0:=ae HWY _ _ _ hG
 (try simp only[List.append_eq,List.cons_append,List.nil_append])
 go_region_held3 (fun w'=>w'.cell? ⟨gw,0,none⟩=some (.pointer (some ⟨gv,0,none⟩))) (first|(exact ae HWY _ _ _ hG)|go_keep) (first
  |(with_reducible refine(ae CA _ hG).mono ?_;rintro e w3 ⟨za,zl,zc,rfl,hG⟩)
  |(with_reducible refine(ae CB _ _ hG).mono ?_;rintro e w4 ⟨ta,tl,tc,rfl,hG⟩)
  |(with_reducible refine(ae CC _ _ _ hG).mono ?_;rintro e w6 ⟨qa,ql,qc,ra,rl,rc,rfl,hG⟩)
  |fail)
 have CD:=hide (ae CD _ _ _ hG)
 clear CA CB CC e0 hG
 go_wp2_with fail
 with_reducible refine(ae CD).mono ?_
 rintro e w7 ⟨xa,xl,xc,rfl,hG⟩
 have CE:=hide (ae CE _ _ _ hG)
 clear CD hG
 go_wp2_with fail
 with_reducible refine(ae CE).mono ?_
 rintro e w8 ⟨xa,xl,xc,rfl,hG⟩
 have CF:=hide (ae CF _ _ _ hG)
 clear CE hG
 go_wp2_with fail
 with_reducible refine(ae CF).mono ?_
 rintro e w9 ⟨xa,xl,xc,rfl,hG⟩
 have HX:=hide hG
 clear CF hG HWY HNX
 go_wp2
 go_ret
 exact⟨_,_,_,rfl,ae HX⟩
end Go.Proofs.YtgcnhfgpflncaaaGreatDoor
/- The lower half of a square root. Written by gen_g.py. -/
namespace Go.Proofs.YtgcnhfgpflncaaaGreatDoor
open Go.RowKit
theorem uu{A x p:Nat}(h:x<=4*A)(hA:wl A<=p):wl x<=p+1:=by
 refine bQ _ _ ?_
 have:=dw hA
 rw[Nat.pow_succ]
 omega
set_option maxRecDepth 100000 in
set_option maxHeartbeats 6400000 in
theorem Di(w:World)(gw gv gr gd gm gt gk ge g:Nat)(s l m:Int)(T:Tab)(W:World)(a u v:Value)(A S R n b c:Nat)
  (hE:aM w gw gv gr gd gm gt gk ge g s l m T) (hT:TB w) (h1:s+((c+8589934592:Nat):Int)<=576460752303423488) (h2:0<=l) (h3:l<=900) (hG:aw w gw gv gr gd gm gt gk ge g s l T c [(u,S),(v,R)] W) (ha:bh w a A)
  (hn:4*n<=b) (hb:2^b<=A) (hn2:n<=1048576) (wA:wl A<=240) (hS:bU 2 (A/2^(2*n)) S) (hR:R=A/2^(2*n)-S*S):
  Calls Tryz.prog 37 #[.pointer (some ⟨gw,0,none⟩),a,u,v,.int .i64 (n:Int)] W (dQ w gw gv gr gd gm gt gk ge g s l T A (c+8589934592)):=by
 have hgreat:=yJ hb hn hS
 have hcut:=BD A n
 have hrest:=AD hS
 have hsq:=rR hS
 obtain⟨P,hP⟩:∃ P,P=2^n:=⟨_,rfl⟩
 have hP0:0<P:=by rw[hP];exact Nat.two_pow_pos n
 have e2n:2^(2*n)=P*P:=by rw[hP, <-Nat.pow_add,Nat.two_mul]
 obtain⟨a1,ha1⟩:∃ a1,a1=A/2^(2*n):=⟨_,rfl⟩
 rw[<-ha1]at hcut hrest hsq hR
 rw[<-hP]at hcut hgreat
 obtain⟨mid,hmid⟩:∃ mid,mid=A/P%P:=⟨_,rfl⟩
 obtain⟨low,hlow⟩:∃ low,low=A%P:=⟨_,rfl⟩
 rw[<-hmid, <-hlow]at hcut
 have hm:mid<P:=by rw[hmid];exact Nat.mod_lt _ hP0
 have hl:low<P:=by rw[hlow];exact Nat.mod_lt _ hP0
 have haR:S*S+R=a1:=by omega
 obtain⟨X,hX⟩:∃ X,X=R*P+mid:=⟨_,rfl⟩
 have hS0:0<S:=by omega
 obtain⟨q,hq⟩:∃ q,q=X/(S*2):=⟨_,rfl⟩
 obtain⟨rem,hrem⟩:∃ rem,rem=X%(S*2):=⟨_,rfl⟩
 have hdm:R*P+mid=q*(2*S)+rem:=by
  have:=Nat.div_add_mod X (S*2)
  rw[<-hq, <-hrem,Nat.mul_comm (S*2),Nat.mul_comm S 2,hX]at this
  exact this.symm
 have hrl:rem<2*S:=by rw[hrem,Nat.mul_comm 2];exact Nat.mod_lt _ (by omega)
 have key:=GQ hcut haR hdm
 obtain⟨k1,k2,k3,k4⟩:=vy (by omega) hm hl hgreat hdm hrl
 -- sizes
 have z1:S*P<=a1:=Nat.le_trans (Nat.mul_le_mul_left S hgreat) hsq
 have z2:a1<=A:=by rw[ha1];exact Nat.div_le_self _ _
 have z3:R*P+mid<=A:=by
  have y1:R*P<=a1*P:=Nat.mul_le_mul_right P (by omega)
  have y2:a1*P<=a1*(P*P):=by rw[<-Nat.mul_assoc];exact Nat.le_mul_of_pos_right _ hP0
  have y3:mid<=mid*P:=Nat.le_mul_of_pos_right _ hP0
  omega
 have z4:P<=S*P:=Nat.le_mul_of_pos_left _ hS0
 have z5:S<=S*P:=Nat.le_mul_of_pos_right _ hP0
 obtain⟨K0,hK0⟩:∃ K0,K0=S*P+q:=⟨_,rfl⟩
 obtain⟨T0,hT0⟩:∃ T0,T0=rem*P+low:=⟨_,rfl⟩
 rw[<-hK0, <-hT0]at key k1 k2
 rw[<-hK0]at k3
 obtain⟨Q2,hQ2⟩:∃ Q2,Q2=q*q:=⟨_,rfl⟩
 rw[<-hQ2]at key k2
 have W4:∀ x,x<=4*A->wl x<=250:=fun x hx=>Nat.le_trans (uu hx wA) (by decide)
 have wW:∀ x,x<=4*A->wl x<=1073741824:=fun x hx=>Nat.le_trans (W4 x hx) (by decide)
 have wM:∀ x,x<=4*A->wl x<=16384:=fun x hx=>Nat.le_trans (W4 x hx) (by decide)
 have wQ:wl Q2<=1073741824:=by
  have:=gG q q
  have:=W4 q (by omega)
  rw[hQ2];omega
 have c1:s+(c:Int)<=576460752303423488:=by omega
 have c2:s+((c+4294967296:Nat):Int)<=576460752303423488:=by omega
 -- the calls
 have CA:Hid (∀ W,aw w gw gv gr gd gm gt gk ge g s l T c [(u,S),(v,R)] W->Calls Tryz.prog 36 #[a,.int .i64 (n:Int)] W fun e w'=>∃ ga la ca,e=.returned (.slice ga la ca)/\aw w gw gv gr gd gm gt gk ge g s l T c [(.slice ga la ca,A/P),(u,S),(v,R)] w'):=fun W h=>h.call (by rw[hP];exact gi W a n A n (by omega) (h.inW hE ha.inW))
 have CB:Hid (∀ W x,aw w gw gv gr gd gm gt gk ge g s l T c [(x,A/P),(u,S),(v,R)] W->Calls Tryz.prog 54 #[x,.int .i64 (n:Int)] W fun e w'=>∃ ga la ca,e=.returned (.slice ga la ca)/\aw w gw gv gr gd gm gt gk ge g s l T c [(.slice ga la ca,mid),(x,A/P),(u,S),(v,R)] w'):=fun W x h=>h.call (by rw[hmid,hP];exact Nc W x n (A/2^n) n (by omega) (by have:=h.g0.wlW (wW _ (Nat.le_trans (Nat.div_le_self A P) (by omega)));rw[hP]at this;exact this))
 have CC:Hid (∀ W x y,aw w gw gv gr gd gm gt gk ge g s l T c [(x,mid),(y,A/P),(u,S),(v,R)] W->Calls Tryz.prog 57 #[v,.int .i64 (n:Int)] W fun e w'=>∃ ga la ca,e=.returned (.slice ga la ca)/\aw w gw gv gr gd gm gt gk ge g s l T c [(.slice ga la ca,R*P),(x,mid),(y,A/P),(u,S),(v,R)] w'):=fun W x y h=>h.call (by rw[hP];exact ir W v n R n (by omega) (h.g3.wlW (wW _ (by omega))))
 have CD:Hid (∀ W x y z,aw w gw gv gr gd gm gt gk ge g s l T c [(z,R*P),(x,mid),(y,A/P),(u,S),(v,R)] W->Calls Tryz.prog 56 #[z,x] W fun e w'=>∃ ga la ca,e=.returned (.slice ga la ca)/\aw w gw gv gr gd gm gt gk ge g s l T c [(.slice ga la ca,X),(z,R*P),(x,mid),(y,A/P),(u,S),(v,R)] w'):=fun W x y z h=>h.call (by rw[hX];exact jo W z x _ _ (h.g0.wlW (wW _ (by omega))) (h.g1.wlW (wW _ (by omega))))
 have CE:Hid (∀ W x y z t,aw w gw gv gr gd gm gt gk ge g s l T c [(t,X),(z,R*P),(x,mid),(y,A/P),(u,S),(v,R)] W->Calls Tryz.prog 57 #[u,.int .i64 1] W fun e w'=>∃ ga la ca,e=.returned (.slice ga la ca)/\aw w gw gv gr gd gm gt gk ge g s l T c [(.slice ga la ca,S*2),(t,X),(u,S)] w'):=fun W x y z t h=>(aw.sub (L':=[(t,X),(u,S)]) h (by simp)).call (ir W u 1 S 1 (by omega) ((h.2 _ (by simp:(u,S) ∈ _)).wlW (wW _ (by omega))))
 have CF:Hid (∀ W t d,aw w gw gv gr gd gm gt gk ge g s l T c [(d,S*2),(t,X),(u,S)] W->Calls Tryz.prog 55 #[.pointer (some ⟨gv,0,none⟩),t,d] W fun e w'=>∃ ga la ca gb lb cb,e=.returned (.tuple #[.slice ga la ca,.slice gb lb cb,.int .i64 0])/\aw w gw gv gr gd gm gt gk ge g s l T (c+4294967296) [(.slice ga la ca,q),(.slice gb lb cb,rem),(u,S)] w'):=fun W t d h=>by
  rw[hq,hrem]
  exact((aw.sub (L':=[(u,S)]) h (by simp)).div hE hT h2 h3 c1 (h.g1.wlM (wM _ (by omega))) (h.g0.wlM (wM _ (by omega))) (by omega) (W4 _ (by omega)))
 have CG:Hid (∀ W x y,aw w gw gv gr gd gm gt gk ge g s l T (c+4294967296) [(x,q),(y,rem),(u,S)] W->Calls Tryz.prog 57 #[u,.int .i64 (n:Int)] W fun e w'=>∃ ga la ca,e=.returned (.slice ga la ca)/\aw w gw gv gr gd gm gt gk ge g s l T (c+4294967296) [(.slice ga la ca,S*P),(x,q),(y,rem)] w'):=fun W x y h=>(aw.sub (L':=[(x,q),(y,rem)]) h (by simp)).call (by rw[hP];exact ir W u n S n (by omega) (h.g2.wlW (wW _ (by omega))))
 have CH:Hid (∀ W x y z,aw w gw gv gr gd gm gt gk ge g s l T (c+4294967296) [(z,S*P),(x,q),(y,rem)] W->Calls Tryz.prog 56 #[z,x] W fun e w'=>∃ ga la ca,e=.returned (.slice ga la ca)/\aw w gw gv gr gd gm gt gk ge g s l T (c+4294967296) [(.slice ga la ca,K0),(x,q),(y,rem)] w'):=fun W x y z h=>(aw.sub (L':=[(x,q),(y,rem)]) h (by simp)).call (by rw[hK0];exact jo W z x _ _ (h.g0.wlW (wW _ (by omega))) (h.g1.wlW (wW _ (by omega))))
 have CI:Hid (∀ W x y z,aw w gw gv gr gd gm gt gk ge g s l T (c+4294967296) [(z,K0),(x,q),(y,rem)] W->Calls Tryz.prog 57 #[y,.int .i64 (n:Int)] W fun e w'=>∃ ga la ca,e=.returned (.slice ga la ca)/\aw w gw gv gr gd gm gt gk ge g s l T (c+4294967296) [(.slice ga la ca,rem*P),(z,K0),(x,q)] w'):=fun W x y z h=>(aw.sub (L':=[(z,K0),(x,q)]) h (by simp)).call (by rw[hP];exact ir W y n rem n (by omega) (h.g2.wlW (wW _ (by omega))))
 have CJ:Hid (∀ W x y z,aw w gw gv gr gd gm gt gk ge g s l T (c+4294967296) [(y,rem*P),(z,K0),(x,q)] W->Calls Tryz.prog 54 #[a,.int .i64 (n:Int)] W fun e w'=>∃ ga la ca,e=.returned (.slice ga la ca)/\aw w gw gv gr gd gm gt gk ge g s l T (c+4294967296) [(.slice ga la ca,low),(y,rem*P),(z,K0),(x,q)] w'):=fun W x y z h=>h.call (by rw[hlow,hP];exact Nc W a n A n (by omega) (h.inW hE ha.inW))
 have CK:Hid (∀ W x y z t,aw w gw gv gr gd gm gt gk ge g s l T (c+4294967296) [(t,low),(y,rem*P),(z,K0),(x,q)] W->Calls Tryz.prog 56 #[y,t] W fun e w'=>∃ ga la ca,e=.returned (.slice ga la ca)/\aw w gw gv gr gd gm gt gk ge g s l T (c+4294967296) [(.slice ga la ca,T0),(z,K0),(x,q)] w'):=fun W x y z t h=>(aw.sub (L':=[(z,K0),(x,q)]) h (by simp)).call (by rw[hT0];exact jo W y t _ _ (h.g1.wlW (wW _ (by omega))) (h.g0.wlW (wW _ (by omega))))
 have CL:Hid (∀ W x y z,aw w gw gv gr gd gm gt gk ge g s l T (c+4294967296) [(y,T0),(z,K0),(x,q)] W->Calls Tryz.prog 58 #[.pointer (some ⟨gm,0,none⟩),x] W fun e w'=>∃ ga la ca,e=.returned (.slice ga la ca)/\aw w gw gv gr gd gm gt gk ge g s l T (c+8589934592) [(.slice ga la ca,Q2),(y,T0),(z,K0)] w'):=fun W x y z h=>by
  rw[hQ2,show c+8589934592=c+4294967296+4294967296 by omega]
  exact(aw.sub (L':=[(y,T0),(z,K0)]) h (by simp)).sqr hE hT h2 h3 c2 (h.g2.wlM (wM _ (by omega)))
 have CM:Hid (∀ W x y z,aw w gw gv gr gd gm gt gk ge g s l T (c+8589934592) [(x,Q2),(y,T0),(z,K0)] W->Calls Tryz.prog 43 #[y,x] W fun e w'=>e=.returned (.int .i64 (aV T0 Q2))/\aw w gw gv gr gd gm gt gk ge g s l T (c+8589934592) [(x,Q2),(y,T0),(z,K0)] w'):=fun W x y z h=>(lQ W y x _ _ (h.g1.wlW (wW _ (by omega))) (h.g0.wlW wQ)).mono fun e w' k=>⟨k.1,h.next k.2⟩
 have CN:Hid (∀ W L,aw w gw gv gr gd gm gt gk ge g s l T (c+8589934592) L W->Calls Tryz.prog 34 #[.int .u64 1] W fun e w'=>∃ ga la ca,e=.returned (.slice ga la ca)/\aw w gw gv gr gd gm gt gk ge g s l T (c+8589934592) ((.slice ga la ca,1) :: L) w'):=fun W L h=>h.call (kK W 1 (by decide))
 have w1:wl 1<=1073741824:=wW 1 (by omega)
 have CU:Hid (∀ W o x y z,aw w gw gv gr gd gm gt gk ge g s l T (c+8589934592) [(o,1),(x,Q2),(y,T0),(z,K0)] W->Calls Tryz.prog 45 #[z,o] W fun e w'=>∃ ga la ca,e=.returned (.tuple #[.slice ga la ca,.bool true])/\aw w gw gv gr gd gm gt gk ge g s l T (c+8589934592) [(.slice ga la ca,K0-1),(x,Q2),(y,T0)] w'):=fun W o x y z h=>by
  refine(gA W z o K0 1 (h.g3.wlW (wW _ (by show K0<=_;omega))) (h.g0.wlW w1)).mono ?_
  rintro e w' ⟨bb,⟨_,r,rfl,nr⟩|⟨hlt,_⟩⟩
  ·have nr:=nr.mono h.1.out.size
   obtain⟨ga,la,ca,rfl⟩:=nr.shape
   refine⟨ga,la,ca,rfl,h.1.next bb,fun p hp=>?_⟩
   rcases List.mem_cons.1 hp with rfl|hp
   ·exact nr
   ·exact(h.2 p (by simp only[List.mem_cons,List.not_mem_nil,or_false]at hp ⊢;exact Or.inr (hp.elim Or.inl (fun h=>Or.inr (Or.inl h))))).next bb
  ·omega
 have CV:Hid (∀ W o x y z,aw w gw gv gr gd gm gt gk ge g s l T (c+8589934592) [(o,1),(z,K0-1),(x,Q2),(y,T0)] W->Calls Tryz.prog 59 #[.slice (some ⟨W.heap.size,0,none⟩) 4 4] (W.alloc (.cells #[y,z,z,o] 29)) fun e w'=>∃ ga la ca,e=.returned (.slice ga la ca)/\aw w gw gv gr gd gm gt gk ge g s l T (c+8589934592) [(.slice ga la ca,T0+(K0-1)+(K0-1)+1),(x,Q2),(z,K0-1)] w'):=fun W o x y z h=>(aw.sub (L':=[(x,Q2),(z,K0-1)]) h (by simp)).call (Jf W y z z o _ _ _ _ (h.g3.wlW (wW _ (by show T0<=_;omega))) (h.g1.wlW (wW _ (by show K0-1<=_;omega))) (h.g1.wlW (wW _ (by show K0-1<=_;omega))) (h.g0.wlW w1))
 have HK:Hid (K0<=4*A/\T0<=4*A/\0<K0):=⟨by omega,by omega,k3⟩
 have CZ:Hid (∀ W x y N M,aw w gw gv gr gd gm gt gk ge g s l T (c+8589934592) [(x,M),(y,N)] W->N<=16*A->wl M<=1073741824->M<=N->Calls Tryz.prog 45 #[y,x] W fun e w'=>∃ ga la ca,e=.returned (.tuple #[.slice ga la ca,.bool true])/\ah W.heap.size w' (.slice ga la ca) (N-M)/\Below W.heap.size W w'):=fun W x y N M h hN wM' hle=>by
  refine(gA W y x N M (h.g1.wlW ?_) (h.g0.wlW wM')).mono ?_
  ·show wl N<=_
   have:=uu (p:=251) (A:=4*A) (x:=N) (by omega) (Nat.le_trans (uu (p:=240) (Nat.le_refl _) wA) (by decide))
   omega
  ·rintro e w' ⟨bb,⟨_,r,rfl,nr⟩|⟨hlt,_⟩⟩
   ·obtain⟨ga,la,ca,rfl⟩:=nr.shape
    exact⟨ga,la,ca,rfl,nr,bb⟩
   ·omega
 have HFY:Hid (∀ W1 w' x y z ya yl yc,Q2<=T0->aw w gw gv gr gd gm gt gk ge g s l T (c+8589934592) [(x,Q2),(y,T0),(z,K0)] W1->ah W1.heap.size w' (.slice ya yl yc) (T0-Q2)->Below W1.heap.size W1 w'->dQ w gw gv gr gd gm gt gk ge g s l T A (c+8589934592) (.returned (.tuple #[z,.slice ya yl yc])) w'):=fun W1 w' x y z ya yl yc hle h nr b=>by
  obtain⟨hRt,hRs⟩:=GU key k1 hle
  obtain⟨gx,hgx,NX⟩:=cF nr
  have sz:=h.1.out.size
  obtain⟨gq,hne,hgq,NQ⟩:=cC (X:=gx) h.g2 hgx (Nat.le_trans sz hgx)
  rw[hRs]at NX
  exact⟨z,_,gq,gx,K0,rfl,hRt,NQ.next b,NX,⟨hne,hgq,Nat.le_trans sz hgx⟩,h.1.next b⟩
 have HFN:Hid (∀ W1 w' x y z ya yl yc,T0<Q2->aw w gw gv gr gd gm gt gk ge g s l T (c+8589934592) [(x,Q2),(y,T0+(K0-1)+(K0-1)+1),(z,K0-1)] W1->ah W1.heap.size w' (.slice ya yl yc) (T0+(K0-1)+(K0-1)+1-Q2)->Below W1.heap.size W1 w'->dQ w gw gv gr gd gm gt gk ge g s l T A (c+8589934592) (.returned (.tuple #[z,.slice ya yl yc])) w'):=fun W1 w' x y z ya yl yc hlt h nr b=>by
  obtain⟨hRt,hRs⟩:=KH key k3 k2 hlt
  obtain⟨gx,hgx,NX⟩:=cF nr
  have sz:=h.1.out.size
  obtain⟨gq,hne,hgq,NQ⟩:=cC (X:=gx) h.g2 hgx (Nat.le_trans sz hgx)
  rw[hRs]at NX
  exact⟨z,_,gq,gx,K0-1,rfl,hRt,NQ.next b,NX,⟨hne,hgq,Nat.le_trans sz hgx⟩,h.1.next b⟩
 have H2:Hid (Q2<=T0+(K0-1)+(K0-1)+1):=by show _<=_;omega
 have HW:Hid (∀ x,x<=4*A->wl x<=1073741824):=wW
 have HQ:Hid (wl Q2<=1073741824):=wQ
 have HE:Hid (aM w gw gv gr gd gm gt gk ge g s l m T):=hE
 obtain⟨ga,la,ca,rfl⟩:=ha.inW.is
 clear hE hT h1 h2 h3 ha hn hb hn2 wA hS hR hgreat hcut hrest hsq hP hP0 e2n ha1 hmid hlow hm hl haR hX hS0 hq hrem hdm hrl key k1 k2 k3 k4 z1 z2 z3 z4 z5 hK0 hT0 hQ2 W4 wW wM wQ c1 c2 w1
 generalize dQ w gw gv gr gd gm gt gk ge g s l T A (c+8589934592)=SA at *
 suffices H:Calls Tryz.prog 37 #[.pointer (some ⟨gw,0,none⟩),.slice ga la ca,u,v,.int .i64 (n:Int)] W (fun e w'=>∃ q r,e=.returned (.tuple #[q,r])/\SA (.returned (.tuple #[q,r])) w') from H.mono (fun e w' ⟨_,_,he,h⟩=>he▸h)
 go_enter Tryz.func37,Tryz.ntmps37
 go_wp2_with fail
 with_reducible refine(ae CA _ hG).mono ?_
 rintro e w1 ⟨aa,al,ac,rfl,hG⟩
 clear CA
 go_wp2_with fail
 with_reducible refine(ae CB _ _ hG).mono ?_
 rintro e w2 ⟨ma,ml,mc,rfl,hG⟩
 clear CB
 go_wp2_with fail
 have hG:=hG.next (Below.refl _ _).drew
 have e0:=hG.way.1
 (try simp only[List.append_eq,List.cons_append,List.nil_append])
 go_region_held3 (fun w'=>w'.cell? ⟨gw,0,none⟩=some (.pointer (some ⟨gv,0,none⟩))) (first|(exact(aw.way hG).1)|go_keep) (first
  |(with_reducible refine(ae CC _ _ _ hG).mono ?_;rintro e w3 ⟨za,zl,zc,rfl,hG⟩)
  |(with_reducible refine(ae CD _ _ _ _ hG).mono ?_;rintro e w4 ⟨ta,tl,tc,rfl,hG⟩)
  |(with_reducible refine(ae CE _ _ _ _ _ hG).mono ?_;rintro e w5 ⟨da,dl,dc,rfl,hG⟩)
  |(with_reducible refine(ae CF _ _ _ hG).mono ?_;rintro e w6 ⟨qa,ql,qc,ra,rl,rc,rfl,hG⟩)
  |fail)
 have CG:=hide (ae CG _ _ _ hG)
 clear CC CD CE CF e0 hG
 go_wp2_with fail
 with_reducible refine(ae CG).mono ?_
 rintro e w7 ⟨za,zl,zc,rfl,hG⟩
 have CH:=hide (ae CH _ _ _ _ hG)
 clear CG hG
 go_wp2_with fail
 with_reducible refine(ae CH).mono ?_
 rintro e w8 ⟨ka,kl,kc,rfl,hG⟩
 have CI:=hide (ae CI _ _ _ _ hG)
 clear CH hG
 go_wp2_with fail
 with_reducible refine(ae CI).mono ?_
 rintro e w9 ⟨ya,yl,yc,rfl,hG⟩
 have CJ:=hide (ae CJ _ _ _ _ hG)
 clear CI hG
 go_wp2_with fail
 with_reducible refine(ae CJ).mono ?_
 rintro e w10 ⟨la,ll,lc,rfl,hG⟩
 have CK:=hide (ae CK _ _ _ _ _ hG)
 clear CJ hG
 go_wp2_with fail
 with_reducible refine(ae CK).mono ?_
 rintro e w11 ⟨sa,sl,sc,rfl,hG⟩
 have CL:=hide (ae CL _ _ _ _ hG)
 obtain⟨e0,e1,e2,e3⟩:=hG.way
 clear CK hG
 go_wp2_with fail
 with_reducible refine(ae CL).mono ?_
 rintro e w12 ⟨xa,xl,xc,rfl,hG⟩
 have CM:=hide (ae CM _ _ _ _ hG)
 clear CL hG e0 e1 e2 e3
 go_wp2_with fail
 with_reducible refine(ae CM).mono ?_
 rintro e w13 ⟨rfl,hG⟩
 clear CM
 obtain⟨cv,hcv⟩:∃ cv,cv=aV T0 Q2:=⟨_,rfl⟩
 rw[<-hcv]
 by_cases hc:Q2<=T0
 ·have hcn:¬cv<0:=by rw[hcv];unfold aV;split<;>(try split)<;>omega
  have CZ:=hide (ae CZ _ (.slice xa xl xc) (.slice sa sl sc) T0 Q2 (hG.sub (by simp)) (by have:=(ae HK).2;omega) (ae HQ) hc)
  have HF:=hide (fun w' ya yl yc=>ae HFY _ w' _ _ _ ya yl yc hc hG)
  clear hG HFY HFN H2 HW HQ HE HK hcv hc CN CU CV
  go_wp2_with fail
  with_reducible refine(ae CZ).mono ?_
  rintro e w14 ⟨da,dl,dc,rfl,nd,bd⟩
  have HX:=hide (ae HF _ _ _ _ nd bd)
  clear CZ HF nd bd
  go_wp2
  go_ret2
  exact⟨_,_,rfl,ae HX⟩
 ·have hcn:cv<0:=by rw[hcv];unfold aV;split<;>(try split)<;>omega
  have hlt:Q2>T0:=by omega
  have CZ:=hide (fun W x y h=>ae CZ W x y (T0+(K0-1)+(K0-1)+1) Q2 h (by have:=ae HK;omega) (ae HQ) (ae H2))
  have HF:=hide (fun W1 w' x y z ya yl yc h=>ae HFN W1 w' x y z ya yl yc hlt h)
  have CN1:=hide (ae CN _ _ hG)
  clear hcv hc hlt HFY HFN HW HQ HE HK H2 hG
  go_wp2_with fail
  with_reducible refine(ae CN1).mono ?_
  rintro e w14 ⟨oa,ol,oc,rfl,hG⟩
  have CU:=hide (ae CU _ _ _ _ _ hG)
  clear CN1 hG
  go_wp2_with fail
  with_reducible refine(ae CU).mono ?_
  rintro e w15 ⟨pa,pl,pc,rfl,hG⟩
  have CN1:=hide (ae CN _ _ hG)
  clear CU CN hG
  go_wp2_with fail
  with_reducible refine(ae CN1).mono ?_
  rintro e w16 ⟨oa2,ol2,oc2,rfl,hG⟩
  have CV:=hide (ae CV _ _ _ _ _ hG)
  clear CN1 hG
  go_wp2_with fail
  with_reducible refine(ae CV).mono ?_
  rintro e w17 ⟨ta2,tl2,tc2,rfl,hG⟩
  have CZ:=hide (ae CZ _ (.slice xa xl xc) (.slice ta2 tl2 tc2) (hG.sub (by simp)))
  have HF:=hide (fun w' ya yl yc=>ae HF _ w' _ _ _ ya yl yc (hG.sub (by intro p hp;simp only[List.mem_cons,List.not_mem_nil,or_false]at hp ⊢;exact hp.elim (fun h=>Or.inr (Or.inl h)) (fun h=>h.elim Or.inl (fun h=>Or.inr (Or.inr h)))):aw w gw gv gr gd gm gt gk ge g s l T (c+8589934592) [(.slice xa xl xc,Q2),(.slice ta2 tl2 tc2,T0+(K0-1)+(K0-1)+1),(.slice pa pl pc,K0-1)] w17))
  clear CV hG
  go_wp2_with fail
  with_reducible refine(ae CZ).mono ?_
  rintro e w18 ⟨da,dl,dc,rfl,nd,bd⟩
  have HX:=hide (ae HF _ _ _ _ nd bd)
  clear CZ HF nd bd
  go_wp2
  go_ret2
  exact⟨_,_,rfl,ae HX⟩
end Go.Proofs.YtgcnhfgpflncaaaGreatDoor
/- Sqrt and Square of the landed package root. Written by gen_g.py. -/
namespace Go.Proofs.YtgcnhfgpflncaaaGreatDoor
open Go.RowKit
theorem dQ.lift{w W w':World}{gw gv gr gd gm gt gk ge g:Nat}{s l:Int}{T:Tab}{A c d:Nat}{e:Ending}(h:dQ W gw gv gr gd gm gt gk ge g s l T A c e w')(b:Below w.heap.size w W)(hc:c<=d):dQ w gw gv gr gd gm gt gk ge g s l T A d e w':=by
 obtain⟨q,r,gq,gx,S,h1,h2,h3,h4,⟨h5,h6,h7⟩,h8⟩:=h
 have sz:=b.size
 exact⟨q,r,gq,gx,S,h1,h2,h3,h4,⟨h5,by omega,by omega⟩,(nX.from (c:=0) h8 (by simp) (Out.of_below b)).up (by omega)⟩
def NK(f:Nat):Prop:=∀(w:World) (gw gv gr gd gm gt gk ge g:Nat) (s l m:Int) (T:Tab) (a:Value) (A:Nat),
 aM w gw gv gr gd gm gt gk ge g s l m T->TB w->0<=s->s+((f*8589934592:Nat):Int)<=576460752303423488->0<=l->l<=900->bh w a A->wl A<=240->A<2^f->
 Calls Tryz.prog 11 #[.pointer (some ⟨gw,0,none⟩),a] w (dQ w gw gv gr gd gm gt gk ge g s l T A (f*8589934592))
theorem AK(w:World)(gw gv gr gd gm gt gk ge g:Nat)(s l m:Int)(T:Tab)(a:Value)(c:Nat)(hE:aM w gw gv gr gd gm gt gk ge g s l m T)(h0:0<=s)(ha:bh w a 0):
  Calls Tryz.prog 11 #[.pointer (some ⟨gw,0,none⟩),a] w (dQ w gw gv gr gd gm gt gk ge g s l T 0 c):=by
 have CL:=hide (jL ha)
 rw[fK]at CL
 obtain⟨ga,la,ca,rfl⟩:=ha.inW.is
 have HX:Hid (dQ w gw gv gr gd gm gt gk ge g s l T 0 c (.returned (.tuple #[.slice none 0 0,.slice none 0 0])) w):=
  ⟨_,_,w.heap.size,w.heap.size+1,0,rfl,⟨by decide,by decide⟩,⟨[],iI,rfl,Or.inl ⟨rfl,rfl⟩⟩,⟨[],iI,rfl,Or.inl ⟨rfl,rfl⟩⟩,⟨by omega,by omega,by omega⟩,(hE.at h0).up (Nat.zero_le _)⟩
 clear hE h0 ha
 generalize dQ w gw gv gr gd gm gt gk ge g s l T 0 c=SA at *
 suffices H:Calls Tryz.prog 11 #[.pointer (some ⟨gw,0,none⟩),.slice ga la ca] w (fun e w'=>e=.returned (.tuple #[.slice none 0 0,.slice none 0 0])/\w'=w) from H.mono (fun e w' ⟨he,hw⟩=>by rw[he,hw];exact ae HX)
 go_enter Tryz.func11,Tryz.ntmps11
 go_wp2_with fail
 refine(ae CL).mono ?_
 rintro e w1 ⟨rfl,hw⟩
 obtain rfl:=hw.symm
 clear hw CL HX
 go_wp2
 go_ret2
 exact⟨rfl,rfl⟩
set_option maxRecDepth 100000 in
set_option maxHeartbeats 3200000 in
theorem Me(w:World)(gw gv gr gd gm gt gk ge g:Nat)(s l m:Int)(T:Tab)(a:Value)(A c:Nat)(hE:aM w gw gv gr gd gm gt gk ge g s l m T)(h0:0<=s)(ha:bh w a A)(hA0:0<A)(hA:A<18446744073709551616):
  Calls Tryz.prog 11 #[.pointer (some ⟨gw,0,none⟩),a] w (dQ w gw gv gr gd gm gt gk ge g s l T A c):=by
 obtain⟨r,hr⟩:=fg (k:=2) (by decide) A
 have wA:wl A=1:=by
  have h1:=bQ 1 A (by simpa using hA)
  have h2:=bO (n:=A)
  omega
 have CL:=hide (jL ha)
 rw[wA]at CL
 have CR:=hide (fun W=>ux W A r hA0 hA hr)
 have hsq:=rR hr
 have hrr:r<=r*r:=by
  rcases Nat.eq_zero_or_pos r with e|e
  ·rw[e];exact Nat.zero_le _
  ·exact Nat.le_mul_of_pos_left _ e
 obtain⟨p,hp⟩:∃ p,p=r*r:=⟨_,rfl⟩
 obtain⟨d,hd⟩:∃ d,d=A-p:=⟨_,rfl⟩
 rw[<-hp]at hsq hrr
 have i1:(r:Int)*(r:Int)=(p:Int):=by rw[hp];push_cast;rfl
 have i2:IntKind.u64.wrap (p:Int)=(p:Int):=by rw[IntKind.wrap_u64];omega
 have i3:(A:Int)-(p:Int)=(d:Int):=by omega
 have i4:IntKind.u64.wrap (d:Int)=(d:Int):=by rw[IntKind.wrap_u64];omega
 have C1:Hid (∀ W,Below w.heap.size w W->Calls Tryz.prog 34 #[.int .u64 (r:Int)] W fun e w'=>∃ xa xl xc,e=.returned (.slice xa xl xc)/\ah w.heap.size w' (.slice xa xl xc) r/\Below w.heap.size w w'):=fun W b=>(kK W r (by omega)).mono fun e w' ⟨x,he,hn,hb⟩=>by
  obtain⟨xa,xl,xc,rfl⟩:=hn.shape
  exact⟨xa,xl,xc,he,hn.mono b.size,ag b hb⟩
 have C2:Hid (∀ W x,Below w.heap.size w W->ah w.heap.size W x r->Calls Tryz.prog 34 #[.int .u64 (d:Int)] W fun e w'=>∃ xa xl xc,e=.returned (.slice xa xl xc)/\dQ w gw gv gr gd gm gt gk ge g s l T A c (.returned (.tuple #[x,.slice xa xl xc])) w'/\Below w.heap.size w w'):=fun W x b nx=>(kK W d (by omega)).mono fun e w' ⟨y,he,hn,hb⟩=>by
  obtain⟨gx,hgx,NX⟩:=cF hn
  have sz:=b.size
  obtain⟨gq,hne,hgq,NQ⟩:=cC (X:=gx) nx hgx (Nat.le_trans sz hgx)
  obtain⟨xa,xl,xc,rfl⟩:=hn.shape
  rw[hd,hp]at NX
  exact⟨xa,xl,xc,he,⟨_,_,gq,gx,r,rfl,hr,NQ.next hb,NX,⟨hne,hgq,Nat.le_trans sz hgx⟩,((hE.next (ag b hb)).at h0 |>.from (c:=0) (by simp) (Out.of_below (ag b hb))).up (by simp)⟩,ag b hb⟩
 obtain⟨ga,b,o,cap,xs,rfl,hR,hdg,hv,hl⟩:=ha
 have hlen:0<xs.length:=by
  have:=dq hdg
  rw[hv,wA]at this
  omega
 have hc0:w.cell? ⟨b,o,none⟩=some (.int .u64 (A:Int)):=by
  have h1:=hR.cell 0 hlen
  have h2:xs.getD 0 0=A:=by
   have h3:=kL xs 0
   rw[List.drop_zero,hv]at h3
   omega
  rw[h2]at h1
  exact h1
 have hcw:Hid (∀ W,Below w.heap.size w W->W.cell? ⟨b,o,none⟩=some (.int .u64 (A:Int))):=fun W bW=>(bW.cell (p:=⟨b,o,none⟩) (World.block_lt_of_cell? _ _ hc0)).trans hc0
 obtain rfl:=hR.head hlen
 obtain⟨n,hn⟩:∃ n,n=xs.length:=⟨_,rfl⟩
 rw[<-hn]at hlen hl CL ⊢
 have hnc:n<=cap:=by have:=hR.room;omega
 have hli:(0:Int)<(n:Int):=by omega
 have bl:Below w.heap.size w w:=Below.refl _ _
 clear hE h0 hA0 hA hr wA hsq hrr hp hd hR hdg hv hn
 generalize dQ w gw gv gr gd gm gt gk ge g s l T A c=SA at *
 suffices H:Calls Tryz.prog 11 #[.pointer (some ⟨gw,0,none⟩),.slice (some ⟨b,o,none⟩) n cap] w (fun e w'=>∃ q r,e=.returned (.tuple #[q,r])/\SA (.returned (.tuple #[q,r])) w') from H.mono (fun e w' ⟨_,_,he,h⟩=>he▸h)
 go_enter Tryz.func11,Tryz.ntmps11
 go_wp2_with fail
 refine(ae CL).mono ?_
 rintro e w1 ⟨rfl,hw⟩
 obtain rfl:=hw.symm
 clear hw CL
 go_wp2_with fail
 with_reducible refine(ae CR _).mono ?_
 rintro e w1 ⟨rfl,hw⟩
 obtain rfl:=hw.symm
 clear hw CR
 go_wp2_with fail
 have bl:Below w.heap.size w w.drew:=(Below.refl _ _).drew
 have hc1:=ae hcw _ bl
 (try simp only[List.append_eq,List.cons_append,List.nil_append])
 go_region_held3 (fun w'=>w'.cell? ⟨b,o,none⟩=some (.int .u64 (A:Int))) (first|(exact ae hcw _ bl)|go_keep) (first
  |(with_reducible refine(ae C1 _ bl).mono ?_;rintro e w2 ⟨xa,xl,xc,rfl,n1,bl⟩)
  |(with_reducible refine(ae C2 _ _ bl n1).mono ?_;rintro e w3 ⟨ya,yl,yc,rfl,hSA,bl⟩)
  |fail)
 have HX:=hide hSA
 clear hSA n1 bl C1 C2 hcw hc0 hc1
 go_wp2
 go_ret2
 exact⟨_,_,rfl,ae HX⟩
set_option maxRecDepth 100000 in
set_option maxHeartbeats 3200000 in
theorem I6(f:Nat)(ih:NK f):NK (f+1):=by
 intro w gw gv gr gd gm gt gk ge g s l m T a A hE hT h0 h1 h2 h3 ha wA hA
 have hfN:(f+1)*8589934592=f*8589934592+8589934592:=by rw[Nat.add_mul,Nat.one_mul]
 have hf1:f*8589934592+8589934592<=(f+1)*8589934592:=Nat.le_of_eq hfN.symm
 have h1':s+((f*8589934592:Nat):Int)<=576460752303423488:=Int.le_trans (Int.add_le_add_left (Int.ofNat_le.2 (by rw[hfN];exact Nat.le_add_right _ _)) s) h1
 have h1'':s+((f*8589934592+8589934592:Nat):Int)<=576460752303423488:=by rw[<-hfN];exact h1
 by_cases hz:A=0
 ·subst hz
  exact AK w gw gv gr gd gm gt gk ge g s l m T a _ hE h0 ha
 by_cases hw:A<18446744073709551616
 ·exact Me w gw gv gr gd gm gt gk ge g s l m T a A _ hE h0 ha (by omega) hw
 obtain⟨b,hb,b0,b1⟩:=iQ (n:=A) (p:=240) (by omega) wA
 have hb64:64<=b:=by
  refine Nat.le_of_not_lt fun h=>?_
  have:=Nat.pow_le_pow_right (n:=2) (by decide) (show b+1<=64 by omega)
  omega
 obtain⟨n,hn⟩:∃ n,n=b/4:=⟨_,rfl⟩
 have hn6:n<=1048576:=by omega
 obtain⟨n2,hn2⟩:∃ n2,n2=2*n:=⟨_,rfl⟩
 obtain⟨b',hb'⟩:∃ b',b'=b+1:=⟨_,rfl⟩
 obtain⟨L,hL⟩:∃ L,L=wl A:=⟨_,rfl⟩
 have hL2:2<=L:=by
  rw[hL]
  exact sy 1 A (by simpa using Nat.le_of_not_lt hw)
 have CL:=hide (jL ha)
 have CB:=hide (dj ha.inW b0 b1)
 rw[<-hL]at CL
 rw[<-hb']at CB
 obtain⟨A1,hA1⟩:∃ A1,A1=A/2^n2:=⟨_,rfl⟩
 have hA1f:A1<2^f:=by
  rw[hA1,Nat.div_lt_iff_lt_mul (Nat.two_pow_pos _), <-Nat.pow_add]
  exact Nat.lt_of_lt_of_le hA (Nat.pow_le_pow_right (by decide) (by omega))
 have wA1:wl A1<=240:=Nat.le_trans (aH (by rw[hA1];exact Nat.div_le_self _ _)) wA
 have C1:Hid (Calls Tryz.prog 36 #[a,.int .i64 (n2:Int)] w fun e w'=>∃ xa xl xc,e=.returned (.slice xa xl xc)/\ah w.heap.size w' (.slice xa xl xc) A1/\Below w.heap.size w w'):=(gi w a n2 A n2 (by omega) ha.inW).mono fun e w' ⟨x,he,hn,hbb⟩=>by
  obtain⟨xa,xl,xc,rfl⟩:=hn.shape
  rw[<-hA1]at hn
  exact⟨xa,xl,xc,he,hn,hbb⟩
 have C2:Hid (∀ W x,Below w.heap.size w W->ah w.heap.size W x A1->Calls Tryz.prog 11 #[.pointer (some ⟨gw,0,none⟩),x] W fun e w'=>∃ qa ql qc ra rl rc S,e=.returned (.tuple #[.slice qa ql qc,.slice ra rl rc])/\bU 2 A1 S/\Below w.heap.size w W/\aw W gw gv gr gd gm gt gk ge g s l T (f*8589934592) [(.slice qa ql qc,S),(.slice ra rl rc,A1-S*S)] w'):=fun W x bW nx=>by
  refine(ih W gw gv gr gd gm gt gk ge g s l m T x A1 (hE.next bW) (hT.next bW) h0 h1' h2 h3 (nx.wlM (Nat.le_trans wA1 (by decide))) wA1 hA1f).mono ?_
  rintro e w' ⟨q,r,gq,gx,S,rfl,hS,nq,nr,⟨k1,k2,k3⟩,k4⟩
  have nq:=nq.toW.mono k2
  have nr:=nr.toW.mono k3
  obtain⟨qa,ql,qc,rfl⟩:=nq.shape
  obtain⟨ra,rl,rc,rfl⟩:=nr.shape
  refine⟨qa,ql,qc,ra,rl,rc,S,rfl,hS,bW,k4,fun p hp=>?_⟩
  rcases List.mem_cons.1 hp with rfl|hp
  ·exact nq
  rcases List.mem_cons.1 hp with rfl|hp
  ·exact nr
  ·cases hp
 have C3:Hid (∀ W W2 q r S,Below w.heap.size w W->bU 2 A1 S->aw W gw gv gr gd gm gt gk ge g s l T (f*8589934592) [(q,S),(r,A1-S*S)] W2->Calls Tryz.prog 37 #[.pointer (some ⟨gw,0,none⟩),a,q,r,.int .i64 (n:Int)] W2 fun e w'=>∃ q r,e=.returned (.tuple #[q,r])/\dQ w gw gv gr gd gm gt gk ge g s l T A ((f+1)*8589934592) (.returned (.tuple #[q,r])) w'):=fun W W2 q r S bW hS hG=>by
  refine(Di W gw gv gr gd gm gt gk ge g s l m T W2 a q r A S (A1-S*S) n b (f*8589934592) (hE.next bW) (hT.next bW) h1'' h2 h3 hG (ha.next bW) (by rw[hn];exact Nat.mul_div_le b 4) b0 hn6 wA (by rw[<-hn2, <-hA1];exact hS) (by rw[<-hn2, <-hA1])).mono ?_
  rintro e w' h
  have h:=h.lift bW (d:=(f+1)*8589934592) hf1
  obtain⟨q,r,gq,gx,S,rfl,hx⟩:=id h
  exact⟨q,r,rfl,h⟩
 obtain⟨ga,la,ca,rfl⟩:=ha.inW.is
 have i0:((L:Int)==0)=false:=by simp only[beq_eq_false_iff_ne];omega
 have i1:((L:Int)==1)=false:=by simp only[beq_eq_false_iff_ne];omega
 have i2:(b':Int)-1=(b:Int):=by omega
 have i3:IntKind.i64.wrap (b:Int)=(b:Int):=by rw[IntKind.wrap_i64];omega
 have i4:(b:Int).tdiv 4=(n:Int):=by rw[Int.tdiv_eq_ediv_of_nonneg (by omega)];omega
 have i4':(b:Int)/4=(n:Int):=by omega
 have i5:IntKind.i64.wrap (n:Int)=(n:Int):=by rw[IntKind.wrap_i64];omega
 have i6:(n:Int)<=524288:=by omega
 have i6':min (n:Int) 524288=(n:Int):=by omega
 have i7:2*(n:Int)=(n2:Int):=by omega
 have i8:IntKind.i64.wrap (n2:Int)=(n2:Int):=by rw[IntKind.wrap_i64];omega
 clear ih hE hT h0 h1 h1' h1'' hfN hf1 hn6 h2 h3 ha wA hA hz hw hb b0 b1 hb64 hn hn2 hb' hL hL2 hA1 hA1f wA1
 generalize dQ w gw gv gr gd gm gt gk ge g s l T A ((f+1)*8589934592)=SA at *
 suffices H:Calls Tryz.prog 11 #[.pointer (some ⟨gw,0,none⟩),.slice ga la ca] w (fun e w'=>∃ q r,e=.returned (.tuple #[q,r])/\SA (.returned (.tuple #[q,r])) w') from H.mono (fun e w' ⟨_,_,he,h⟩=>he▸h)
 go_enter Tryz.func11,Tryz.ntmps11
 go_wp2_with fail
 refine(ae CL).mono ?_
 rintro e w1 ⟨rfl,hw⟩
 obtain rfl:=hw.symm
 clear hw CL
 go_wp2_with fail
 refine(ae CB).mono ?_
 rintro e w1 ⟨rfl,hw⟩
 obtain rfl:=hw.symm
 clear hw CB
 go_wp2_with fail
 with_reducible refine(ae C1).mono ?_
 rintro e w1 ⟨xa,xl,xc,rfl,n1,b1⟩
 have C2:=hide (ae C2 _ _ b1 n1)
 clear C1 n1 b1
 go_wp2_with fail
 with_reducible refine(ae C2).mono ?_
 rintro e w2 ⟨qa,ql,qc,ra,rl,rc,S,rfl,hS,bW,hG⟩
 have C3:=hide (ae C3 _ _ _ _ _ bW hS hG)
 clear C2 hS bW hG
 go_wp2_with fail
 with_reducible refine(ae C3).mono ?_
 rintro e w3 ⟨q,r,rfl,hSA⟩
 have HX:=hide hSA
 clear C3 hSA
 go_wp2
 go_ret2
 exact⟨_,_,rfl,ae HX⟩
theorem I5:∀ f,NK f
 |0=>by
  intro w gw gv gr gd gm gt gk ge g s l m T a A hE hT h0 h1 h2 h3 ha wA hA
  obtain rfl:A=0:=by simpa using hA
  exact AK w gw gv gr gd gm gt gk ge g s l m T a _ hE h0 ha
 |f+1=>I6 f (I5 f)
theorem mP(w:World)(gw gv gr gd gm gt gk ge g:Nat)(s l m:Int)(T:Tab)(a:Value)(A:Nat)(hE:aM w gw gv gr gd gm gt gk ge g s l m T)(hT:TB w)(h0:0<=s)(h1:s<=288230376151711744)(h2:0<=l)(h3:l<=900)(ha:bh w a A)(wA:wl A<=240):
  Calls Tryz.prog 11 #[.pointer (some ⟨gw,0,none⟩),a] w (dQ w gw gv gr gd gm gt gk ge g s l T A 131941395333120):=by
 obtain⟨f,hf⟩:∃ f,f=64*240:=⟨_,rfl⟩
 have hA:A<2^f:=by
  have:=dw wA
  rw[show(18446744073709551616:Nat)=2^64 by decide, <-Nat.pow_mul, <-hf]at this
  exact this
 have hc:f*8589934592=131941395333120:=by omega
 rw[<-hc]
 exact I5 f w gw gv gr gd gm gt gk ge g s l m T a A hE hT h0 (by omega) h2 h3 ha wA hA
theorem iz:fU:=by
 intro w gw gv gr gd gm gt gk ge g s l m T u A S hE hT h0 h1 h2 h3 hu hS wA
 refine(mP w gw gv gr gd gm gt gk ge g s l m T u A hE hT h0 h1 h2 (by omega) hu (by omega)).mono ?_
 rintro e w' ⟨q,r,gq,gx,S',k1,k2,k3,k4,k5,s',m',E,⟨k6,k7⟩,o⟩
 obtain rfl:=ln k2 hS
 exact⟨q,r,gq,gx,s',m',k1,k3,k4,k5,E,⟨k6,by omega⟩,o⟩
end Go.Proofs.YtgcnhfgpflncaaaGreatDoor
/- near and Root of the landed package root. Written by gen_g.py. -/
namespace Go.Proofs.YtgcnhfgpflncaaaGreatDoor
open Go.RowKit
theorem aw.lift{w W w':World}{gw gv gr gd gm gt gk ge g:Nat}{s l:Int}{T:Tab}{c d:Nat}{L:List (Value×Nat)}(h:aw W gw gv gr gd gm gt gk ge g s l T c L w')(b:Below w.heap.size w W)(hc:c<=d):aw w gw gv gr gd gm gt gk ge g s l T d L w':=
 ⟨(nX.from (c:=0) h.1 (by simp) (Out.of_below b)).up (by omega),fun p hp=>(h.2 p hp).mono b.size⟩
def uF(w:World)(gw gv gr gd gm gt gk ge g:Nat)(s l:Int)(T:Tab)(A k c:Nat)(e:Ending)(w':World):Prop:=
 ∃ xa xl xc X S,e=.returned (.slice xa xl xc)/\bU k A S/\(X=S\/X=S+1)/\aw w gw gv gr gd gm gt gk ge g s l T c [(.slice xa xl xc,X)] w'
def NF(f:Nat):Prop:=∀(w:World) (gw gv gr gd gm gt gk ge g:Nat) (s l m:Int) (T:Tab) (a:Value) (A k:Nat),
 aM w gw gv gr gd gm gt gk ge g s l m T->TB w->0<=s->s+(((f+1)*8796093022208:Nat):Int)<=576460752303423488->0<=l->l<=900->bh w a A->wl A<=200->A<2^f->2<=k->k<=64->
 Calls Tryz.prog 42 #[.pointer (some ⟨gw,0,none⟩),a,.int .i64 (k:Int)] w (uF w gw gv gr gd gm gt gk ge g s l T A k ((f+1)*8796093022208))
theorem IK{k A R h b d:Nat}(hb:2^b<=A)(hd:d*k<=b)(hh:h<=d)(hR:bU k (A/2^(h*k)) R):0<R:=by
 refine xi hR ?_
 rw[Nat.one_pow,Nat.le_div_iff_mul_le (Nat.two_pow_pos _),Nat.one_mul]
 exact Nat.le_trans (Nat.pow_le_pow_right (by decide) (Nat.le_trans (Nat.mul_le_mul_right k hh) hd)) hb
theorem BE{L k d:Nat}(hk:0<k)(hd:d=(L+k-1)/k):L<=d*k/\(0<L->(d-1)*k<=L-1)/\d<=L:=by
 have h1:=Nat.div_add_mod (L+k-1) k
 have h2:=Nat.mod_lt (L+k-1) hk
 rw[<-hd,Nat.mul_comm]at h1
 refine⟨by omega,fun h=>?_,?_⟩
 ·rw[Nat.sub_mul,Nat.one_mul]
  omega
 ·rw[hd]
  refine Nat.le_trans (Nat.div_le_div_right (c:=k) (show L+k-1<=L*k+(k-1) by have:=Nat.le_mul_of_pos_right L hk;omega)) ?_
  rw[Nat.mul_comm L k,Nat.mul_add_div hk,Nat.div_eq_of_lt (by omega)]
  omega
set_option maxRecDepth 100000 in
set_option maxHeartbeats 6400000 in
theorem rG(f:Nat)(ih:∀ g,g+1=f->NF g):NF f:=by
 intro w gw gv gr gd gm gt gk ge g s l m T a A k hE hT h0 h1 h2 h3 ha wA hA hk hk64
 have hF1:8796093022208<=(f+1)*8796093022208:=Nat.le_mul_of_pos_left _ (Nat.succ_pos f)
 have h1a:s+((0+8246337208320:Nat):Int)<=576460752303423488:=Int.le_trans (Int.add_le_add_left (Int.ofNat_le.2 (Nat.le_trans (by decide) hF1)) s) h1
 have hF2:0+8246337208320<=(f+1)*8796093022208:=Nat.le_trans (by decide) hF1
 obtain⟨L,hLb,hL,CB⟩:=pB ha.inW
 have CB:=hide CB
 have hL64:L<=12800:=by
  rcases hL with⟨_,e⟩|⟨hp,p1,p2,p3⟩
  ·omega
  ·refine Nat.le_of_not_lt fun hc=>?_
   have a1:=dw wA
   obtain⟨Z,hZ⟩:∃ Z,Z=64*200:=⟨_,rfl⟩
   rw[show(18446744073709551616:Nat)=2^64 by decide, <-Nat.pow_mul, <-hZ]at a1
   have a2:=Nat.pow_le_pow_right (n:=2) (by decide) (show Z<=L-1 by omega)
   omega
 obtain⟨d,hd⟩:∃ d,d=(L+k-1)/k:=⟨_,rfl⟩
 obtain⟨d1,d2,d3⟩:=BE (L:=L) (k:=k) (by omega) hd
 have hAd:A<2^(d*k):=by
  rcases hL with⟨e,_⟩|⟨hp,p1,p2,p3⟩
  ·rw[e];exact Nat.two_pow_pos _
  ·exact Nat.lt_of_lt_of_le p3 (Nat.pow_le_pow_right (by decide) d1)
 obtain⟨S,hS⟩:=fg (k:=k) (by omega) A
 obtain⟨hB1,hB2,hB3⟩:=qV ⟨k,by omega⟩
 simp only at hB1 hB2 hB3
 have hB3:=hB3 (by omega)
 have CL:=hide (fun w=>gJ (k:Int) w (by omega) (by omega))
 rw[Int.toNat_natCast]at CL
 obtain⟨B,hB⟩:∃ B,B=Lib.bitLen k:=⟨_,rfl⟩
 rw[<-hB]at hB1 hB2 hB3 CL
 clear hB
 obtain⟨M,hM⟩:∃ M,M=1048576/k:=⟨_,rfl⟩
 have hM0:16384<=M:=by
  rw[hM,Nat.le_div_iff_mul_le (by omega)]
  omega
 obtain⟨t0,ht0⟩:∃ t0,t0=L+k:=⟨_,rfl⟩
 obtain⟨t1,ht1⟩:∃ t1,t1=L+k-1:=⟨_,rfl⟩
 have i1:(L:Int)+(k:Int)=(t0:Int):=by omega
 have i2:IntKind.i64.wrap (t0:Int)=(t0:Int):=by rw[IntKind.wrap_i64];omega
 have i3:(t0:Int)-1=(t1:Int):=by omega
 have i4:IntKind.i64.wrap (t1:Int)=(t1:Int):=by rw[IntKind.wrap_i64];omega
 have i5:(t1:Int).tdiv (k:Int)=(d:Int):=by rw[Int.tdiv_eq_ediv_of_nonneg (by omega),hd, <-ht1];rfl
 have i5':(t1:Int)/(k:Int)=(d:Int):=by rw[hd, <-ht1];rfl
 have i6:IntKind.i64.wrap (d:Int)=(d:Int):=by rw[IntKind.wrap_i64];omega
 have ik:((k:Int)==0)=false:=by simp only[beq_eq_false_iff_ne];omega
 have ik':¬(k:Int)=0:=by omega
 have ik3:¬k=0:=by omega
 have ik4:(0:Int)<(k:Int):=by omega
 have ik2:IntKind.u64.wrap (k:Int)=(k:Int):=by rw[IntKind.wrap_u64];omega
 obtain⟨z1,hz1⟩:∃ z1:Int,z1=(d:Int)-(B:Int):=⟨_,rfl⟩
 obtain⟨z2,hz2⟩:∃ z2:Int,z2=z1-4:=⟨_,rfl⟩
 obtain⟨z3,hz3⟩:∃ z3:Int,z3=z2.tdiv 2:=⟨_,rfl⟩
 have hz3b:(2<=z2->z3=z2/2)/\(z2<2->z3<1)/\z3<=12800/\ -100<=z3:=by
  rcases Int.lt_or_le z2 0 with h|h
  ·have e:z3= -((-z2)/2):=by
    rw[hz3, <-Int.tdiv_eq_ediv_of_nonneg (a:= -z2) (by omega),Int.neg_tdiv,Int.neg_neg]
   omega
  ·have e:z3=z2/2:=by rw[hz3,Int.tdiv_eq_ediv_of_nonneg h]
   omega
 have j1:(d:Int)-(B:Int)=z1:=hz1.symm
 have j2:IntKind.i64.wrap z1=z1:=by rw[IntKind.wrap_i64];omega
 have j3:z1-4=z2:=hz2.symm
 have j4:IntKind.i64.wrap z2=z2:=by rw[IntKind.wrap_i64];omega
 have j5:z2.tdiv 2=z3:=hz3.symm
 have j6:IntKind.i64.wrap z3=z3:=by rw[IntKind.wrap_i64];omega
 have j7:(1048576:Int).tdiv (k:Int)=(M:Int):=by rw[Int.tdiv_eq_ediv_of_nonneg (by decide),hM];rfl
 have j7':(1048576:Int)/(k:Int)=(M:Int):=by rw[hM];rfl
 have hMu:M<=1048576:=by rw[hM];exact Nat.div_le_self _ _
 have j8:IntKind.i64.wrap (M:Int)=(M:Int):=by rw[IntKind.wrap_i64];omega
 have j9:min z3 (M:Int)=z3:=by omega
 have j10:z3<=(M:Int):=by omega
 obtain⟨ga,la,ca,hga⟩:=ha.inW.is
 have b0:aw w gw gv gr gd gm gt gk ge g s l T 0 [] w:=⟨hE.at h0,fun p hp=>by cases hp⟩
 by_cases hz:2<=z2
 ·-- a step
  obtain⟨h,hh⟩:∃ h:Nat,(h:Int)=z3:=⟨z3.toNat,by omega⟩
  have hh1:1<=h:=by omega
  have hhk:h*k<=1048576:=by
   have:=Nat.mul_le_mul (show h<=12800 by omega) hk64
   omega
  obtain⟨hp,p1,p2,p3⟩:0<A/\1<=L/\2^(L-1)<=A/\A<2^L:=by
   rcases hL with⟨_,e⟩|h
   ·omega
   ·exact h
  obtain⟨f',rfl⟩:∃ f',f=f'+1:=⟨f-1,by
   have:f≠0:=fun e=>by rw[e]at hA;simp at hA;omega
   omega⟩
  have hfN:(f'+1+1)*8796093022208=(f'+1)*8796093022208+8796093022208:=by rw[Nat.add_mul (f'+1),Nat.one_mul]
  have hF3:(f'+1)*8796093022208+1099511627776<=(f'+1+1)*8796093022208:=by rw[hfN];exact Nat.add_le_add_left (by decide) _
  have h1b:s+(((f'+1)*8796093022208:Nat):Int)<=576460752303423488:=Int.le_trans (Int.add_le_add_left (Int.ofNat_le.2 (Nat.le_trans (Nat.le_add_right _ _) hF3)) s) h1
  have h1c:s+(((f'+1)*8796093022208+1099511627776:Nat):Int)<=576460752303423488:=Int.le_trans (Int.add_le_add_left (Int.ofNat_le.2 hF3) s) h1
  clear h1 hF1 hF2 h1a
  obtain⟨hk2,hhk2⟩:∃ hk2,hk2=h*k:=⟨_,rfl⟩
  obtain⟨A1,hA1⟩:∃ A1,A1=A/2^hk2:=⟨_,rfl⟩
  have hA1f:A1<2^f':=by
   rw[hA1,Nat.div_lt_iff_lt_mul (Nat.two_pow_pos _), <-Nat.pow_add]
   refine Nat.lt_of_lt_of_le hA (Nat.pow_le_pow_right (by decide) ?_)
   have:1<=hk2:=by rw[hhk2];exact Nat.mul_pos hh1 (by omega)
   omega
  have wA1:wl A1<=200:=Nat.le_trans (aH (by rw[hA1];exact Nat.div_le_self _ _)) wA
  obtain⟨j,hj⟩:∃ j,k=j+1:=⟨k-1,by omega⟩
  have C1:Hid (∀ W,Below w.heap.size w W->Calls Tryz.prog 36 #[a,.int .i64 (hk2:Int)] W fun e w'=>∃ xa xl xc,e=.returned (.slice xa xl xc)/\ah w.heap.size w' (.slice xa xl xc) A1/\Below w.heap.size w w'):=fun W bW=>(gi W a hk2 A hk2 (by omega) (ha.next bW).inW).mono fun e w' ⟨x,he,hn,hbb⟩=>by
   obtain⟨xa,xl,xc,rfl⟩:=hn.shape
   rw[<-hA1]at hn
   exact⟨xa,xl,xc,he,hn.mono bW.size,ag bW hbb⟩
  have C2:Hid (∀ W x,Below w.heap.size w W->ah w.heap.size W x A1->Calls Tryz.prog 42 #[.pointer (some ⟨gw,0,none⟩),x,.int .i64 (k:Int)] W fun e w'=>Below w.heap.size w W/\∃ xa xl xc Y R,e=.returned (.slice xa xl xc)/\bU k A1 R/\(Y=R\/Y=R+1)/\aw W gw gv gr gd gm gt gk ge g s l T ((f'+1)*8796093022208) [(.slice xa xl xc,Y)] w'):=fun W x bW nx=>(ih f' rfl W gw gv gr gd gm gt gk ge g s l m T x A1 k (hE.next bW) (hT.next bW) h0 h1b h2 h3 (nx.wlM (Nat.le_trans wA1 (by decide))) wA1 hA1f hk hk64).mono fun e w' h=>⟨bW,h⟩
  have C3:Hid (∀ W W2 y Y R,Below w.heap.size w W->bU k A1 R->(Y=R\/Y=R+1)->aw W gw gv gr gd gm gt gk ge g s l T ((f'+1)*8796093022208) [(y,Y)] W2->Calls Tryz.prog 62 #[.pointer (some ⟨gw,0,none⟩),a,y,.int .i64 (h:Int),.int .i64 (k:Int)] W2 fun e w'=>∃ xa xl xc,e=.returned (.slice xa xl xc)/\uF w gw gv gr gd gm gt gk ge g s l T A k ((f'+1+1)*8796093022208) (.returned (.slice xa xl xc)) w'):=fun W W2 y Y R bW hR hY hG=>by
   have hR':=hR
   rw[hA1,hhk2]at hR'
   have hRp:=IK (d:=d-1) p2 (d2 (by omega)) (by omega) hR'
   have hYp:0<Y:=by rcases hY with e|e<;>omega
   have hj1:1<=j:=by omega
   have w1:=Jy hR hk64 wA1
   have w2:wl (Y^j)<=240:=by
    have a1:Y^j<=(R+1)^j:=Nat.pow_le_pow_left (by omega) j
    have a2:(R+1)^j<=(R+1)^k:=Nat.pow_le_pow_right (by omega) (by omega)
    have:=aH (Nat.le_trans a1 a2)
    omega
   have w3:wl Y<=16384:=by
    have a2:(R+1)^1<=(R+1)^k:=Nat.pow_le_pow_right (by omega) (by omega)
    rw[Nat.pow_one]at a2
    have:=aH (show Y<=(R+1)^k by omega)
    omega
   refine(BO W gw gv gr gd gm gt gk ge g s l m T W2 a y A Y h j k _ (hE.next bW) (hT.next bW) h1c h2 h3 hG (ha.next bW) (Nat.le_trans wA (by decide)) hYp w3 w2 hj1 hj hk64 hhk).mono ?_
   rintro e w' ⟨xa,xl,xc,rfl,hG'⟩
   have hS':=hS
   have hn:=EM (d:=d-1) (c:=B) (h:=h) (b:=L-1) (j:=j) (y:=Y) (by rw[<-hj];exact hS') (by rw[<-hj];exact hR') p2 (by rw[<-hj];exact d2 (by omega)) (by omega) (by omega) hY
   exact⟨xa,xl,xc,rfl,xa,xl,xc,_,S,rfl,hS,hn,hG'.lift bW hF3⟩
  have q1:¬(h:Int)<1:=by omega
  have q2:(h:Int)*(k:Int)=(hk2:Int):=by rw[hhk2];push_cast;rfl
  have q3:IntKind.i64.wrap (hk2:Int)=(hk2:Int):=by rw[IntKind.wrap_i64];omega
  subst hga
  rw[<-hh]at j5 j6 j9 j10
  clear ih hE hT h0 h1b h1c hfN hF3 h2 h3 ha wA hA hk hk64 hLb hL hL64 hd d1 d2 d3 hAd hS hB1 hB2 hB3 hM hM0 ht0 ht1 hz1 hz2 hz3 hz3b hMu b0 hz hh hh1 hhk hp p1 p2 p3 hhk2 hA1 hA1f wA1 hj
  generalize uF w gw gv gr gd gm gt gk ge g s l T A k ((f'+1+1)*8796093022208)=SA at *
  suffices H:Calls Tryz.prog 42 #[.pointer (some ⟨gw,0,none⟩),.slice ga la ca,.int .i64 (k:Int)] w (fun e w'=>∃ v,e=.returned v/\SA (.returned v) w') from H.mono (fun e w' ⟨_,he,h⟩=>he▸h)
  go_enter Tryz.func42,Tryz.ntmps42
  go_wp2_with fail
  refine(ae CB).mono ?_
  rintro e w1 ⟨rfl,hw⟩
  obtain rfl:=hw.symm
  clear hw CB
  go_wp2_with fail
  (try simp only[List.append_eq,List.cons_append,List.nil_append])
  go_region_held3 (fun w'=>True) (first|trivial|go_keep) (first
   |(with_reducible refine(ae CL _).mono ?_;rintro e w2 ⟨rfl,rfl⟩)
   |fail)
  have bl:Below w.heap.size w w.drew:=(Below.refl _ _).drew
  have C1:=hide (ae C1 _ bl)
  clear bl
  go_wp2_with fail
  with_reducible refine(ae C1).mono ?_
  rintro e w3 ⟨xa,xl,xc,rfl,nx,bx⟩
  have C2:=hide (ae C2 _ _ bx nx)
  clear C1 nx bx
  go_wp2_with fail
  with_reducible refine(ae C2).mono ?_
  rintro e w4 ⟨bW,ya,yl,yc,Y,R,rfl,hR,hY,hG⟩
  have C3:=hide (ae C3 _ _ _ _ _ bW hR hY hG)
  clear C2 bW hR hY hG
  go_wp2_with fail
  with_reducible refine(ae C3).mono ?_
  rintro e w5 ⟨xa,xl,xc,rfl,hX⟩
  have HX:=hide hX
  clear C3 hX
  go_wp2
  go_ret
  exact⟨_,rfl,ae HX⟩
 ·have hd13:d<=13:=by omega
  have C1:=hide (fun W (bW:Below w.heap.size w W)=>GB w gw gv gr gd gm gt gk ge g s l m T W a A S d k 0 hE hT h1a h2 h3 (b0.next bW) ha (by omega) hk64 hd13 hAd hS)
  have HN:Hid (∀ xa xl xc W,aw w gw gv gr gd gm gt gk ge g s l T (0+8246337208320) [(.slice xa xl xc,S)] W->uF w gw gv gr gd gm gt gk ge g s l T A k ((f+1)*8796093022208) (.returned (.slice xa xl xc)) W):=fun xa xl xc W h=>⟨xa,xl,xc,S,S,rfl,hS,Or.inl rfl,⟨h.1.up hF2,h.2⟩⟩
  have q1:z3<1:=by omega
  subst hga
  clear ih hE hT h0 h1 h1a hF1 hF2 h2 h3 ha wA hA hk hk64 hLb hL hL64 hd d1 d2 d3 hAd hS hB1 hB2 hB3 hM hM0 ht0 ht1 hz1 hz2 hz3 hz3b hMu b0 hz hd13
  generalize uF w gw gv gr gd gm gt gk ge g s l T A k ((f+1)*8796093022208)=SA at *
  generalize aw w gw gv gr gd gm gt gk ge g s l T (0+8246337208320)=PG at *
  suffices H:Calls Tryz.prog 42 #[.pointer (some ⟨gw,0,none⟩),.slice ga la ca,.int .i64 (k:Int)] w (fun e w'=>∃ v,e=.returned v/\SA (.returned v) w') from H.mono (fun e w' ⟨_,he,h⟩=>he▸h)
  go_enter Tryz.func42,Tryz.ntmps42
  go_wp2_with fail
  refine(ae CB).mono ?_
  rintro e w1 ⟨rfl,hw⟩
  obtain rfl:=hw.symm
  clear hw CB
  go_wp2_with fail
  (try simp only[List.append_eq,List.cons_append,List.nil_append])
  go_region_held3 (fun w'=>True) (first|trivial|go_keep) (first
   |(with_reducible refine(ae CL _).mono ?_;rintro e w2 ⟨rfl,rfl⟩)
   |fail)
  have bl:Below w.heap.size w w.drew:=(Below.refl _ _).drew
  have C1:=hide (ae C1 _ bl)
  clear bl
  go_wp2_with fail
  with_reducible refine(ae C1).mono ?_
  rintro e w5 ⟨xa,xl,xc,rfl,hX⟩
  have HX:=hide (ae HN _ _ _ _ hX)
  clear C1 hX HN
  go_wp2
  go_ret
  exact⟨_,rfl,ae HX⟩
theorem vW:∀ f,NF f
 |0=>rG 0 (fun g h=>absurd h (Nat.succ_ne_zero g))
 |f+1=>rG (f+1) (fun g h=>by
  obtain rfl:g=f:=Nat.succ.inj h
  exact vW g)
end Go.Proofs.YtgcnhfgpflncaaaGreatDoor
/- New of package root. -/
namespace Go.Proofs.YtgcnhfgpflncaaaGreatDoor
open Go.RowKit
set_option maxHeartbeats 1600000 in
theorem iy:fS:=by
 intro T w
 have CC:=hide (fun w=>Et T w)
 unfold Tab.val at CC ⊢
 go_enter Tryz.func9,Tryz.ntmps9
 go_wp2_with fail
 refine(ae CC _).mono ?_
 rintro e w1 ⟨gv,gr,gd,gm,gt,gk,ge,g,rfl,E1,⟨hgv,hgr,hgd,hgm,hgt,hgk,hge,hg⟩,b1⟩
 have hg':w.heap.size<=g:=Nat.le_trans (by simp) hg
 have hge':w.heap.size<=ge:=Nat.le_trans (by simp) hge
 have hgk':w.heap.size<=gk:=Nat.le_trans (by simp) hgk
 have hgt':w.heap.size<=gt:=Nat.le_trans (by simp) hgt
 have hgm':w.heap.size<=gm:=Nat.le_trans (by simp) hgm
 have hgd':w.heap.size<=gd:=Nat.le_trans (by simp) hgd
 have hgr':w.heap.size<=gr:=Nat.le_trans (by simp) hgr
 have hgv':w.heap.size<=gv:=Nat.le_trans (by simp) hgv
 have b0:=hide (ag ((Below.refl w.heap.size w).alloc (Nat.le_refl _) _) b1)
 have tl:=E1.met.lt
 have HE:=hide E1
 clear CC b1 hg E1 hge hgk hgt hgm hgd hgr hgv
 go_wp2
 go_ret
 refine⟨w1.heap.size,gv,gr,gd,gm,gt,gk,ge,g,rfl,⟨?_,(ae HE).next ((Below.refl _ _).alloc (Nat.le_refl _) _),by omega⟩,⟨(ae b0).size,hgv',hgr',hgd',hgm',hgt',hgk',hge',hg'⟩,(ae b0).alloc (ae b0).size _⟩
 exact cell_of_row _ w1.heap.size 0 _ _ (0,0) (heap_alloc_new w1 _)
end Go.Proofs.YtgcnhfgpflncaaaGreatDoor
/- Root and Square of the landed package root. Written by gen_g.py. -/
namespace Go.Proofs.YtgcnhfgpflncaaaGreatDoor
open Go.RowKit
def qT(w:World)(gw gv gr gd gm gt gk ge g:Nat)(s l:Int)(T:Tab)(S:Nat)(e:Ending)(w':World):Prop:=
 ∃ q s' m',e=.returned (.tuple #[q,.int .i64 0])/\ah w.heap.size w' q S/\aM w' gw gv gr gd gm gt gk ge g s' l m' T/\(0<=s'/\s'<=s+144115188075855872)/\Out (·=g) w w'
set_option maxRecDepth 100000 in
set_option maxHeartbeats 3200000 in
theorem Ef(w:World)(gw gv gr gd gm gt gk ge g:Nat)(s l m:Int)(T:Tab)(a:Value)(A S k:Nat)(hE:aM w gw gv gr gd gm gt gk ge g s l m T)(hT:TB w)(h0:0<=s)(h1:s<=288230376151711744)(h2:0<=l)(h3:l<=900)(ha:bh w a A)(hk:3<=k)(hk64:k<=64)(hS:bU k A S)(wA:wl A<=100):
  Calls Tryz.prog 26 #[.pointer (some ⟨gw,0,none⟩),a,.int .i64 (k:Int)] w (qT w gw gv gr gd gm gt gk ge g s l T S):=by
 obtain⟨f,hf⟩:∃ f,f=64*100:=⟨_,rfl⟩
 have hA:A<2^f:=by
  have:=dw wA
  rw[show(18446744073709551616:Nat)=2^64 by decide, <-Nat.pow_mul, <-hf]at this
  exact this
 obtain⟨c,hc⟩:∃ c,c=(f+1)*8796093022208:=⟨_,rfl⟩
 have hcn:c=56303791435153408:=by rw[hc,hf]
 have wS:=Jy hS hk64 wA
 have C1:=hide (vW f w gw gv gr gd gm gt gk ge g s l m T a A k hE hT h0 (by rw[<-hc,hcn];omega) h2 h3 ha (by omega) hA (by omega) hk64)
 rw[<-hc]at C1
 clear hc hf hA
 have hXS:∀ X,(X=S\/X=S+1)->wl (X^k)<=102/\wl X<=102:=fun X hX=>by
  have a1:X^k<=(S+1)^k:=Nat.pow_le_pow_left (by omega) k
  have a2:(S+1)^1<=(S+1)^k:=Nat.pow_le_pow_right (by omega) (by omega)
  rw[Nat.pow_one]at a2
  have b1:=aH a1
  have b2:=aH (show X<=(S+1)^k by omega)
  omega
 have C2:Hid (∀ W x X,(X=S\/X=S+1)->aw w gw gv gr gd gm gt gk ge g s l T c [(x,X)] W->Calls Tryz.prog 44 #[.pointer (some ⟨gw,0,none⟩),x,.int .i64 (k:Int)] W fun e w'=>∃ xa xl xc,e=.returned (.slice xa xl xc)/\aw w gw gv gr gd gm gt gk ge g s l T (c+549755813888) [(.slice xa xl xc,X^k),(x,X)] w'):=fun W x X hX h=>pg w gw gv gr gd gm gt gk ge g s l m T W x X k c _ hE hT (by rw[hcn];omega) h2 h3 h (.head _) (by have:=hXS X hX;omega) (by omega) hk64 (by have:=hXS X hX;omega)
 have C3:Hid (∀ W x y X,(X=S\/X=S+1)->aw w gw gv gr gd gm gt gk ge g s l T (c+549755813888) [(y,X^k),(x,X)] W->Calls Tryz.prog 43 #[y,a] W fun e w'=>e=.returned (.int .i64 (aV (X^k) A))/\aw w gw gv gr gd gm gt gk ge g s l T (c+549755813888) [(x,X)] w'):=fun W x y X hX h=>(lQ W y a _ _ (h.g0.wlW (by have:=hXS X hX;omega)) (h.inW hE ha.inW)).mono fun e w' k=>⟨k.1,(h.next k.2).sub (by simp)⟩
 have C4:Hid (∀ W L,aw w gw gv gr gd gm gt gk ge g s l T (c+549755813888) L W->Calls Tryz.prog 34 #[.int .u64 1] W fun e w'=>∃ ga la ca,e=.returned (.slice ga la ca)/\aw w gw gv gr gd gm gt gk ge g s l T (c+549755813888) ((.slice ga la ca,1) :: L) w'):=fun W L h=>h.call (kK W 1 (by decide))
 have w1:wl 1<=1073741824:=Nat.le_trans (bQ 1 1 (by decide)) (by decide)
 have C5:Hid (∀ W x o,aw w gw gv gr gd gm gt gk ge g s l T (c+549755813888) [(o,1),(x,S+1)] W->Calls Tryz.prog 45 #[x,o] W fun e w'=>∃ ga la ca,e=.returned (.tuple #[.slice ga la ca,.bool true])/\aw w gw gv gr gd gm gt gk ge g s l T (c+549755813888) [(.slice ga la ca,S)] w'):=fun W x o h=>by
  refine(gA W x o (S+1) 1 (h.g1.wlW (by have:=hXS (S+1) (Or.inr rfl);omega)) (h.g0.wlW w1)).mono ?_
  rintro e w' ⟨bb,⟨_,r,rfl,nr⟩|⟨hlt,_⟩⟩
  ·have nr:=nr.mono h.1.out.size
   obtain⟨ga,la,ca,rfl⟩:=nr.shape
   refine⟨ga,la,ca,rfl,h.1.next bb,fun p hp=>?_⟩
   rcases List.mem_cons.1 hp with rfl|hp
   ·exact nr
   ·cases hp
  ·omega
 have HF:Hid (∀ W x,aw w gw gv gr gd gm gt gk ge g s l T (c+549755813888) [(x,S)] W->qT w gw gv gr gd gm gt gk ge g s l T S (.returned (.tuple #[x,.int .i64 0])) W):=fun W x h=>by
  obtain⟨⟨s',m',E,⟨k1,k2⟩,o⟩,_⟩:=id h
  exact⟨x,s',m',rfl,h.g0,E,⟨k1,by rw[hcn]at k2;omega⟩,o⟩
 have HS1:Hid (S^k<=A):=hS.1
 have HS2:Hid (A<(S+1)^k):=hS.2
 have HRt:=hide hS
 obtain⟨ga,la,ca,rfl⟩:=ha.inW.is
 have i1:¬(k:Int)<1:=by omega
 have i2:¬(64:Int)<(k:Int):=by omega
 have i3:((k:Int)==1)=false:=by simp only[beq_eq_false_iff_ne];omega
 have i4:((k:Int)==2)=false:=by simp only[beq_eq_false_iff_ne];omega
 clear hE hT h0 h1 h2 h3 ha hk hk64 hS wA hcn wS hXS w1
 generalize qT w gw gv gr gd gm gt gk ge g s l T S=SA at *
 obtain⟨PG,hPG⟩:∃ PG,PG=aw w gw gv gr gd gm gt gk ge g s l T:=⟨_,rfl⟩
 have C1:Hid (Calls Tryz.prog 42 #[.pointer (some ⟨gw,0,none⟩),.slice ga la ca,.int .i64 (k:Int)] w fun e w'=>∃ xa xl xc X,e=.returned (.slice xa xl xc)/\(X=S\/X=S+1)/\PG c [(.slice xa xl xc,X)] w'):=(ae C1).mono fun e w' ⟨xa,xl,xc,X,S2,k1,k2,k3,k4⟩=>by
  obtain rfl:=ln k2 (ae HRt)
  exact⟨xa,xl,xc,X,k1,k3,by rw[hPG];exact k4⟩
 rw[<-hPG]at C2 C3 C4 C5 HF
 clear hPG HRt
 suffices H:Calls Tryz.prog 26 #[.pointer (some ⟨gw,0,none⟩),.slice ga la ca,.int .i64 (k:Int)] w (fun e w'=>∃ q,e=.returned (.tuple #[q,.int .i64 0])/\SA (.returned (.tuple #[q,.int .i64 0])) w') from H.mono (fun e w' ⟨_,he,h⟩=>he▸h)
 go_enter Tryz.func26,Tryz.ntmps26
 go_wp2_with fail
 with_reducible refine(ae C1).mono ?_
 rintro e w1 ⟨xa,xl,xc,X,rfl,hX,hG⟩
 have HX:=hide hX
 have C2:=hide (ae C2 _ _ _ hX hG)
 clear C1 hX hG
 go_wp2_with fail
 with_reducible refine(ae C2).mono ?_
 rintro e w2 ⟨ya,yl,yc,rfl,hG⟩
 have C3:=hide (ae C3 _ _ _ _ (ae HX) hG)
 clear C2 hG
 go_wp2_with fail
 with_reducible refine(ae C3).mono ?_
 rintro e w3 ⟨rfl,hG⟩
 clear C3
 obtain⟨cv,hcv⟩:∃ cv,cv=aV (X^k) A:=⟨_,rfl⟩
 rw[<-hcv]
 by_cases hle:X^k<=A
 ·have eX:X=S:=by
   rcases ae HX with e|e
   ·exact e
   ·exfalso
    have:=ae HS2
    rw[e]at hle
    omega
  subst eX
  have hcn:¬(0:Int)<cv:=by rw[hcv];unfold aV;split<;>(try split)<;>omega
  have HG:=hide (ae HF _ _ hG)
  clear hcv hle HX HS1 HS2 hG HF C4 C5
  go_wp2
  go_ret2
  exact⟨_,rfl,ae HG⟩
 ·have eX:X=S+1:=by
   rcases ae HX with e|e
   ·exfalso
    have:=ae HS1
    rw[e]at hle
    omega
   ·exact e
  subst eX
  have hcn:(0:Int)<cv:=by rw[hcv];unfold aV;split<;>(try split)<;>omega
  have C4:=hide (ae C4 _ _ hG)
  clear hcv hle HX HS1 HS2 hG
  go_wp2_with fail
  with_reducible refine(ae C4).mono ?_
  rintro e w4 ⟨oa,ol,oc,rfl,hG⟩
  have C5:=hide (ae C5 _ _ _ hG)
  clear C4 hG
  go_wp2_with fail
  with_reducible refine(ae C5).mono ?_
  rintro e w5 ⟨za,zl,zc,rfl,hG⟩
  have HG:=hide (ae HF _ _ hG)
  clear C5 HF hG
  go_wp2
  go_ret2
  exact⟨_,rfl,ae HG⟩
set_option maxRecDepth 100000 in
set_option maxHeartbeats 3200000 in
theorem m7:lH:=by
 intro w gw gv gr gd gm gt gk ge g s l m T u A S k hE hT h0 h1 h2 h3 hu hk1 hk64 hS wA
 by_cases hk3:3<=k
 ·exact Ef w gw gv gr gd gm gt gk ge g s l m T u A S k hE hT h0 h1 h2 (by omega) hu hk3 hk64 hS wA
 by_cases hk2:k=2
 ·subst hk2
  have C1:=hide (mP w gw gv gr gd gm gt gk ge g s l m T u A hE hT h0 h1 h2 (by omega) hu (by omega))
  have HS:=hide hS
  obtain⟨ga,la,ca,rfl⟩:=hu.inW.is
  have HF:Hid (∀ e w',dQ w gw gv gr gd gm gt gk ge g s l T A 131941395333120 e w'->∃ qa ql qc ra rl rc,e=.returned (.tuple #[.slice qa ql qc,.slice ra rl rc])/\qT w gw gv gr gd gm gt gk ge g s l T S (.returned (.tuple #[.slice qa ql qc,.int .i64 0])) w'):=fun e w' ⟨q,r,gq,gx,S',k1,k2,k3,k4,⟨_,k5,_⟩,s',m',E,⟨k6,k7⟩,o⟩=>by
   obtain rfl:=ln k2 (ae HS)
   obtain⟨qa,ql,qc,rfl⟩:=k3.toW.shape
   obtain⟨ra,rl,rc,rfl⟩:=k4.toW.shape
   exact⟨qa,ql,qc,ra,rl,rc,k1,_,s',m',rfl,k3.toW.mono k5,E,⟨k6,by omega⟩,o⟩
  show Calls Tryz.prog _ _ _ (qT w gw gv gr gd gm gt gk ge g s l T S)
  clear hE hT h0 h1 h2 h3 hu hk1 hk64 hS wA hk3 HS
  generalize qT w gw gv gr gd gm gt gk ge g s l T S=SA at *
  generalize dQ w gw gv gr gd gm gt gk ge g s l T A 131941395333120=SQ at *
  suffices H:Calls Tryz.prog 26 #[.pointer (some ⟨gw,0,none⟩),.slice ga la ca,.int .i64 2] w (fun e w'=>∃ q,e=.returned (.tuple #[q,.int .i64 0])/\SA (.returned (.tuple #[q,.int .i64 0])) w') from H.mono (fun e w' ⟨_,he,h⟩=>he▸h)
  go_enter Tryz.func26,Tryz.ntmps26
  go_wp2_with fail
  with_reducible refine(ae C1).mono ?_
  rintro e w1 h
  obtain⟨qa,ql,qc,ra,rl,rc,rfl,hF⟩:=ae HF _ _ h
  have HG:=hide hF
  clear C1 h HF hF
  go_wp2
  go_ret2
  exact⟨_,rfl,ae HG⟩
 ·obtain rfl:k=1:=by omega
  obtain rfl:S=A:=by
   refine ln hS ⟨by rw[Nat.pow_one];exact Nat.le_refl _,by rw[Nat.pow_one];exact Nat.lt_succ_self _⟩
  have C1:=hide (dW w u S hu.inW)
  obtain⟨ga,la,ca,rfl⟩:=hu.inW.is
  have HE:=hide hE
  have H0:=hide h0
  clear hE hT h0 h1 h2 h3 hu hk1 hk64 hS wA hk3 hk2
  go_enter Tryz.func26,Tryz.ntmps26
  go_wp2_with fail
  refine(ae C1).mono ?_
  rintro e w1 ⟨r,rfl,nr,b⟩
  have NR:=hide nr
  have HB:=hide b
  obtain⟨ra,rl,rc,rfl⟩:=nr.shape
  clear C1 nr b
  go_wp2
  go_ret2
  exact⟨_,s,m,rfl,ae NR,(ae HE).next (ae HB),⟨ae H0,by omega⟩,Out.of_below (ae HB)⟩
set_option maxHeartbeats 1600000 in
theorem tZ:oK:=by
 intro w gw gv gr gd gm gt gk ge g s l m T u A z hE hu hz
 obtain⟨ga,la,ca,rfl⟩:=hu.inW.is
 clear hE hu
 go_enter Tryz.func26,Tryz.ntmps26
 rcases hz with hz|hz
 ·go_wp2
  go_ret2
  exact⟨none,0,rfl,Below.refl _ _⟩
 ·have hz2:¬z<1:=by omega
  go_wp2
  go_ret2
  first|exact⟨none,0,rfl,Below.refl _ _⟩|exact⟨⟨none,0,rfl⟩,Below.refl _ _⟩
def O8(w:World)(gw gv gr gd gm gt gk ge g:Nat)(s l:Int)(T:Tab)(A S:Nat)(b:Bool)(e:Ending)(w':World):Prop:=
 ∃ qa ql qc ra rl rc s' m',e=.returned (.tuple #[.slice qa ql qc,.slice ra rl rc])/\ah w.heap.size w' (.slice qa ql qc) S/\aL w' (.slice ra rl rc) (A-S*S)/\aM w' gw gv gr gd gm gt gk ge g s' l m' T/\(0<=s'/\s'<=s+144115188075855872)/\Out (·=g) w w'/\Calls Tryz.prog 40 #[.slice ra rl rc] w' fun e w2=>e=.returned (.bool b)/\w2=w'
theorem IB(w:World)(gw gv gr gd gm gt gk ge g:Nat)(s l m:Int)(T:Tab)(a:Value)(A S:Nat)(b:Bool)(hb:b=decide (A-S*S=0))(hE:aM w gw gv gr gd gm gt gk ge g s l m T)(hT:TB w)(h0:0<=s)(h1:s<=288230376151711744)(h2:0<=l)(h3:l<=900)(ha:bh w a A)(hS:bU 2 A S)(wA:wl A<=100):
  Calls Tryz.prog 11 #[.pointer (some ⟨gw,0,none⟩),a] w (O8 w gw gv gr gd gm gt gk ge g s l T A S b):=by
 refine(mP w gw gv gr gd gm gt gk ge g s l m T a A hE hT h0 h1 h2 h3 ha (by omega)).mono ?_
 rintro e w' ⟨q,r,gq,gx,S',k1,k2,k3,k4,⟨_,k5,_⟩,s',m',E,⟨k6,k7⟩,o⟩
 obtain rfl:=ln k2 hS
 have wR:wl (A-S'*S')<=1073741824:=by
  have:=aH (Nat.sub_le A (S'*S'))
  omega
 have iR:=k4.toW.wlW wR
 obtain⟨qa,ql,qc,rfl⟩:=k3.toW.shape
 obtain⟨ra,rl,rc,rfl⟩:=k4.toW.shape
 exact⟨qa,ql,qc,ra,rl,rc,s',m',k1,k3.toW.mono k5,iR,E,⟨k6,by omega⟩,o,gX iR b hb⟩
set_option maxHeartbeats 1600000 in
theorem xw:oL:=by
 intro w gw gv gr gd gm gt gk ge g s l m T u A S hE hT h0 h1 h2 h3 hu hS hA wA
 have C1:=hide (IB w gw gv gr gd gm gt gk ge g s l m T u A S true (by simp[hA]) hE hT h0 h1 h2 (by omega) hu hS wA)
 obtain⟨ga,la,ca,rfl⟩:=hu.inW.is
 clear hE hT h0 h1 h2 h3 hu hS hA wA
 go_enter Tryz.func24,Tryz.ntmps24
 go_wp2_with fail
 with_reducible refine(ae C1).mono ?_
 rintro e w1 ⟨qa,ql,qc,ra,rl,rc,s',m',rfl,nq,_,E,hs,o,CZ⟩
 have CZ:=hide CZ
 have HX:=hide (And.intro nq (And.intro E (And.intro hs o)))
 clear C1 nq E hs o
 go_wp2_with fail
 refine(ae CZ).mono ?_
 rintro e w2 ⟨rfl,hw⟩
 obtain rfl:=hw.symm
 clear hw CZ
 go_wp2
 go_ret2
 obtain⟨nq,E,hs,o⟩:=ae HX
 exact⟨_,s',m',rfl,nq,E,hs,o⟩
set_option maxHeartbeats 1600000 in
theorem pW:lI:=by
 intro w gw gv gr gd gm gt gk ge g s l m T u A S hE hT h0 h1 h2 h3 hu hS hA wA
 have hsq:=rR hS
 have C1:=hide (IB w gw gv gr gd gm gt gk ge g s l m T u A S false (by simp;omega) hE hT h0 h1 h2 (by omega) hu hS wA)
 obtain⟨ga,la,ca,rfl⟩:=hu.inW.is
 clear hE hT h0 h1 h2 h3 hu hS hA wA hsq
 go_enter Tryz.func24,Tryz.ntmps24
 go_wp2_with fail
 with_reducible refine(ae C1).mono ?_
 rintro e w1 ⟨qa,ql,qc,ra,rl,rc,s',m',rfl,nq,_,E,hs,o,CZ⟩
 have CZ:=hide CZ
 have HX:=hide (And.intro E (And.intro hs o))
 clear C1 nq E hs o
 go_wp2_with fail
 refine(ae CZ).mono ?_
 rintro e w2 ⟨rfl,hw⟩
 obtain rfl:=hw.symm
 clear hw CZ
 go_wp2
 go_ret2
 obtain⟨E,hs,o⟩:=ae HX
 exact⟨none,0,s',m',rfl,E,hs,o⟩
end Go.Proofs.YtgcnhfgpflncaaaGreatDoor
