/- What the statements on package mul ask of its calls: as propositions, for whatever code. -/
import Derived.Test.YtpdpnomocbehkaaGreatDoorB32
import Derived.Test.YtpdpnomocbehkaaGreatDoorB16
import Derived.Test.YtpdpnomocbehkaaGreatDoorB33
import Derived.Test.YtpdpnomocbehkaaGreatDoorB30
import Derived.Test.YtpdpnomocbehkaaGreatDoorB40
import Derived.Test.YtpdpnomocbehkaaGreatDoorB24
import Derived.Test.YtpdpnomocbehkaaGreatDoorB5
import Derived.Test.YtpdpnomocbehkaaGreatDoorB12
import Derived.Test.YtpdpnomocbehkaaGreatDoorB13
import Derived.Test.YtpdpnomocbehkaaGreatDoorB3
import Derived.Test.YtpdpnomocbehkaaGreatDoorB8
import Derived.Test.YtpdpnomocbehkaaGreatDoorB15
namespace Go.Proofs.YtpdpnomocbehkaaGreatDoor
open Go.RowKit
theorem aH.tb{w w':World}{gm gt gk ge g:Nat}{s l m:Int}{T:Tab}(h:aH w gm gt gk ge g s l m T)(o:Out (·=g) w w')(t:TB w):TB w':=
 ⟨fun j hj=>h.cell o (t.b j hj) rfl (fun x e=>by cases e),fun j hj=>h.cell o (t.d j hj) rfl (fun x e=>by cases e)⟩
def px:Prop:=∀(w:World) (gm gt gk ge g:Nat) (s l m:Int) (T:Tab) (u v:Value) (A C:Nat),
 aH w gm gt gk ge g s l m T->TB w->0<=s->s<=1152921504606846976->0<=l->l<=1000->aX w u A->aX w v C->
 Calls Tryz.prog 39 #[.pointer (some ⟨gm,0,none⟩),u,v] w fun e w'=>∃ r m',e=.returned r/\ah w.heap.size w' r (A*C)/\aH w' gm gt gk ge g (s+iI T (wl A:Int) (wl C:Int)) l m' T/\m<=m'/\m'<=max m (l+(dI (max (wl A) (wl C)):Int))/\Out (·=g) w w'
def Pq(r:Int)(n m:Nat):Bool:=if r=1\/r=2\/r=5 then decide (0<m) else if r=3 then decide (0<m/\(n+1)/2<m) else if r=4 then decide (0<m/\2*((n+2)/3)<m) else false
end Go.Proofs.YtpdpnomocbehkaaGreatDoor
/- What the statements on package recip ask of its calls:as propositions,for whatever code. -/
namespace Go.Proofs.YtpdpnomocbehkaaGreatDoor
open Go.RowKit
structure aB(w:World)(gr gd gm gt gk ge g:Nat)(s l m:Int)(T:Tab):Prop where
 ptr:w.cell? ⟨gr,0,none⟩=some (.pointer (some ⟨gd,0,none⟩))
 div:cZ w gd gm gt gk ge g s l m T
 nm:gr≠g
theorem aB.lt{w:World}{gr gd gm gt gk ge g:Nat}{s l m:Int}{T:Tab}(h:aB w gr gd gm gt gk ge g s l m T):gr<w.heap.size:=World.block_lt_of_cell? _ _ h.ptr
theorem aB.met{w:World}{gr gd gm gt gk ge g:Nat}{s l m:Int}{T:Tab}(h:aB w gr gd gm gt gk ge g s l m T):Met w g 0 s l m:=h.div.met
theorem aB.next{w w':World}{gr gd gm gt gk ge g:Nat}{s l m:Int}{T:Tab}(h:aB w gr gd gm gt gk ge g s l m T)(b:Below w.heap.size w w'):aB w' gr gd gm gt gk ge g s l m T:=
 ⟨(b.cell (p:=⟨gr,0,none⟩) h.lt).trans h.ptr,h.div.next b,h.nm⟩
theorem aB.step{w w':World}{gr gd gm gt gk ge g:Nat}{s l m s' l' m':Int}{T:Tab}(h:aB w gr gd gm gt gk ge g s l m T)(M:Met w' g 0 s' l' m')(t:Touch g 0 3 w w'):aB w' gr gd gm gt gk ge g s' l' m' T:=
 ⟨t.grown.cell h.ptr (by simpa using h.nm),h.div.step M t,h.nm⟩
theorem aB.kept{w w':World}{gr gd gm gt gk ge g:Nat}{s l m s' l' m':Int}{T:Tab}(h:aB w gr gd gm gt gk ge g s l m T)(o:Out (·=g) w w')(K:cZ w' gd gm gt gk ge g s' l' m' T):aB w' gr gd gm gt gk ge g s' l' m' T:=
 ⟨o.cell h.ptr h.nm,K,h.nm⟩
theorem aB.out{D:Nat->Prop}{w w':World}{gr gd gm gt gk ge g:Nat}{s l m:Int}{T:Tab}(h:aB w gr gd gm gt gk ge g s l m T)(o:Out D w w')(h6:¬D gr)(h5:¬D gd)(h4:¬D gm)(h3:¬D gt)(h0:¬D gk)(h1:¬D ge)(h2:¬D g):aB w' gr gd gm gt gk ge g s l m T:=
 ⟨o.cell h.ptr h6,h.div.out o h5 h4 h3 h0 h1 h2,h.nm⟩
theorem aB.rep{w w':World}{gr gd gm gt gk ge g:Nat}{s l m:Int}{T:Tab}(h:aB w gr gd gm gt gk ge g s l m T)(o:Out (·=g) w w'){ga:Option Addr}{b oo cap:Nat}{xs:List Nat}(r:Rep w ga b oo cap xs):Rep w' ga b oo cap xs:=h.div.rep o r
theorem aB.inM{w w':World}{gr gd gm gt gk ge g:Nat}{s l m:Int}{T:Tab}(h:aB w gr gd gm gt gk ge g s l m T)(o:Out (·=g) w w'){v:Value}{n:Nat}(r:aX w v n):aX w' v n:=h.div.inM o r
theorem aB.other{w w':World}{gr gd gm gt gk ge g:Nat}{s l m:Int}{T:Tab}{gr' gd' gm' gt' gk' ge' g':Nat}{s' l' m':Int}{T':Tab}(h:aB w gr gd gm gt gk ge g s l m T)(o:Out (·=g) w w')(k:aB w gr' gd' gm' gt' gk' ge' g' s' l' m' T')(hg:g'≠g):aB w' gr' gd' gm' gt' gk' ge' g' s' l' m' T':=
 ⟨h.div.mul.cell o k.ptr rfl (fun z e=>by cases e),⟨h.div.mul.cell o k.div.ptr rfl (fun z e=>by cases e),h.div.mul.other o k.div.mul hg,k.div.nm⟩,k.nm⟩
def FV:Prop:=∀(T:Tab) (w:World),Calls Tryz.prog 40 #[T.val] w fun e w'=>∃ gr gd gm gt gk ge g,e=.returned (.pointer (some ⟨gr,0,none⟩))/\aB w' gr gd gm gt gk ge g 0 0 0 T/\(w.heap.size<=gr/\w.heap.size<=gd/\w.heap.size<=gm/\w.heap.size<=gt/\w.heap.size<=gk/\w.heap.size<=ge/\w.heap.size<=g)/\Below w.heap.size w w'
def rF:Prop:=∀(w:World) (gr gd gm gt gk ge g:Nat) (s l m:Int) (T:Tab) (u:Value) (D n:Nat),
 aB w gr gd gm gt gk ge g s l m T->TB w->0<=s->s<=576460752303423488->0<=l->l<=1000->aX w u D->0<D->wl D<=1000->n<=100000->
 Calls Tryz.prog 26 #[.pointer (some ⟨gr,0,none⟩),u,.int .i64 (n:Int)] w fun e w'=>∃ r gq s' m',e=.returned (.tuple #[r,.int .i64 0])/\aO gq (gq+1) w' r (2^n/D)/\w.heap.size<=gq/\aB w' gr gd gm gt gk ge g s' l m' T/\(0<=s'/\s'<=s+4503599627370496)/\Out (·=g) w w'
def Aj:Prop:=∀(w:World) (gr gd gm gt gk ge g:Nat) (s l m:Int) (T:Tab) (u d v:Value) (A D V n:Nat),
 aB w gr gd gm gt gk ge g s l m T->TB w->0<=s->s<=576460752303423488->0<=l->l<=1000->aX w u A->aX w d D->aX w v V->0<D->wl D<=1000->n<=100000->V=2^n/D->A<=2^n->
 Calls Tryz.prog 27 #[.pointer (some ⟨gr,0,none⟩),u,d,v,.int .i64 (n:Int)] w fun e w'=>∃ q r gq gx s' m',e=.returned (.tuple #[q,r,.int .i64 0])/\aO gq (gq+1) w' q (A/D)/\aO gx (gx+1) w' r (A%D)/\(gq≠gx/\w.heap.size<=gq/\w.heap.size<=gx)/\aB w' gr gd gm gt gk ge g s' l m' T/\(0<=s'/\s'<=s+9007199254740992)/\Out (·=g) w w'
end Go.Proofs.YtpdpnomocbehkaaGreatDoor
/- What the statements on package div ask of its calls:as propositions,for whatever code. -/
namespace Go.Proofs.YtpdpnomocbehkaaGreatDoor
open Go.RowKit
structure aw(w:World)(gv gr gd gm gt gk ge g:Nat)(s l m:Int)(T:Tab):Prop where
 ptr:w.cell? ⟨gv,0,none⟩=some (.pointer (some ⟨gr,0,none⟩))
 rcp:aB w gr gd gm gt gk ge g s l m T
 nm:gv≠g
theorem aw.lt{w:World}{gv gr gd gm gt gk ge g:Nat}{s l m:Int}{T:Tab}(h:aw w gv gr gd gm gt gk ge g s l m T):gv<w.heap.size:=World.block_lt_of_cell? _ _ h.ptr
theorem aw.met{w:World}{gv gr gd gm gt gk ge g:Nat}{s l m:Int}{T:Tab}(h:aw w gv gr gd gm gt gk ge g s l m T):Met w g 0 s l m:=h.rcp.met
theorem aw.next{w w':World}{gv gr gd gm gt gk ge g:Nat}{s l m:Int}{T:Tab}(h:aw w gv gr gd gm gt gk ge g s l m T)(b:Below w.heap.size w w'):aw w' gv gr gd gm gt gk ge g s l m T:=
 ⟨(b.cell (p:=⟨gv,0,none⟩) h.lt).trans h.ptr,h.rcp.next b,h.nm⟩
theorem aw.kept{w w':World}{gv gr gd gm gt gk ge g:Nat}{s l m s' l' m':Int}{T:Tab}(h:aw w gv gr gd gm gt gk ge g s l m T)(o:Out (·=g) w w')(K:aB w' gr gd gm gt gk ge g s' l' m' T):aw w' gv gr gd gm gt gk ge g s' l' m' T:=
 ⟨o.cell h.ptr h.nm,K,h.nm⟩
theorem aw.rep{w w':World}{gv gr gd gm gt gk ge g:Nat}{s l m:Int}{T:Tab}(h:aw w gv gr gd gm gt gk ge g s l m T)(o:Out (·=g) w w'){ga:Option Addr}{b oo cap:Nat}{xs:List Nat}(r:Rep w ga b oo cap xs):Rep w' ga b oo cap xs:=h.rcp.rep o r
theorem aw.inM{w w':World}{gv gr gd gm gt gk ge g:Nat}{s l m:Int}{T:Tab}(h:aw w gv gr gd gm gt gk ge g s l m T)(o:Out (·=g) w w'){v:Value}{n:Nat}(r:aX w v n):aX w' v n:=h.rcp.inM o r
theorem aw.other{w w':World}{gv gr gd gm gt gk ge g:Nat}{s l m:Int}{T:Tab}{gv' gr' gd' gm' gt' gk' ge' g':Nat}{s' l' m':Int}{T':Tab}(h:aw w gv gr gd gm gt gk ge g s l m T)(o:Out (·=g) w w')(k:aw w gv' gr' gd' gm' gt' gk' ge' g' s' l' m' T')(hg:g'≠g):aw w' gv' gr' gd' gm' gt' gk' ge' g' s' l' m' T':=
 ⟨h.rcp.div.mul.cell o k.ptr rfl (fun z e=>by cases e),h.rcp.other o k.rcp hg,k.nm⟩
def fw:Prop:=∀(T:Tab) (w:World),Calls Tryz.prog 10 #[T.val] w fun e w'=>∃ gv gr gd gm gt gk ge g,e=.returned (.pointer (some ⟨gv,0,none⟩))/\aw w' gv gr gd gm gt gk ge g 0 0 0 T/\(w.heap.size<=gv/\w.heap.size<=gr/\w.heap.size<=gd/\w.heap.size<=gm/\w.heap.size<=gt/\w.heap.size<=gk/\w.heap.size<=ge/\w.heap.size<=g)/\Below w.heap.size w w'
def df:Prop:=∀(w:World) (gv gr gd gm gt gk ge g:Nat) (s l m:Int) (T:Tab) (u v:Value) (A C:Nat),
 aw w gv gr gd gm gt gk ge g s l m T->TB w->0<=s->s<=576460752303423488->0<=l->l<=900->aX w u A->aX w v C->0<C->wl A<=250->wl C<=250->
 Calls Tryz.prog 12 #[.pointer (some ⟨gv,0,none⟩),u,v] w fun e w'=>∃ q r gq gx s' m',e=.returned (.tuple #[q,r,.int .i64 0])/\aO gq (gq+1) w' q (A/C)/\aO gx (gx+1) w' r (A%C)/\(gq≠gx/\w.heap.size<=gq/\w.heap.size<=gx)/\aw w' gv gr gd gm gt gk ge g s' l m' T/\(0<=s'/\s'<=s+((64*(wl A*wl A)+64:Nat):Int))/\(m'<=max m (l+((4*Lib.bitLen (wl A)+8:Nat):Int)))/\Out (·=g) w w'
def pr:Prop:=∀(w:World) (gv gr gd gm gt gk ge g:Nat) (s l m:Int) (T:Tab) (u v:Value) (A C:Nat),
 aw w gv gr gd gm gt gk ge g s l m T->TB w->0<=s->s<=576460752303423488->0<=l->l<=900->aX w u A->aX w v C->0<C->wl A<=250->wl C<=250->
 Calls Tryz.prog 23 #[.pointer (some ⟨gv,0,none⟩),u,v] w fun e w'=>∃ q r gq gx s' m',e=.returned (.tuple #[q,r,.int .i64 0])/\aO gq (gq+1) w' q (A/C)/\aO gx (gx+1) w' r (A%C)/\(gq≠gx/\w.heap.size<=gq/\w.heap.size<=gx)/\aw w' gv gr gd gm gt gk ge g s' l m' T/\(0<=s'/\s'<=s+9007199254740992)/\Out (·=g) w w'
def PT(w:World)(gv gr gd gm gt gk ge g:Nat)(s l:Int)(T:Tab)(e:Ending)(w':World):Prop:=
 ∃ qa qc ra rc s' m',e=.returned (.tuple #[.slice qa 0 qc,.slice ra 0 rc,.int .i64 2])/\aw w' gv gr gd gm gt gk ge g s' l m' T/\(0<=s'/\s'<=s+9007199254740992)/\Out (·=g) w w'
def ja:Prop:=∀(w:World) (gv gr gd gm gt gk ge g:Nat) (s l m:Int) (T:Tab) (u v:Value) (A:Nat),
 aw w gv gr gd gm gt gk ge g s l m T->TB w->0<=s->s<=576460752303423488->0<=l->l<=900->aX w u A->aX w v 0->wl A<=250->
 Calls Tryz.prog 12 #[.pointer (some ⟨gv,0,none⟩),u,v] w (PT w gv gr gd gm gt gk ge g s l T)
def lT:Prop:=∀(w:World) (gv gr gd gm gt gk ge g:Nat) (s l m:Int) (T:Tab) (u v:Value) (A:Nat),
 aw w gv gr gd gm gt gk ge g s l m T->TB w->0<=s->s<=576460752303423488->0<=l->l<=900->aX w u A->aX w v 0->wl A<=250->
 Calls Tryz.prog 23 #[.pointer (some ⟨gv,0,none⟩),u,v] w (PT w gv gr gd gm gt gk ge g s l T)
def mY:Prop:=∀(w:World) (gv gr gd gm gt gk ge g:Nat) (s l m:Int) (T:Tab) (u v:Value) (A C:Nat),
 aw w gv gr gd gm gt gk ge g s l m T->TB w->0<=s->s<=576460752303423488->0<=l->l<=900->aX w u A->aX w v C->0<C->wl A<=250->wl C<=250->A%C=0->
 Calls Tryz.prog 32 #[.pointer (some ⟨gv,0,none⟩),u,v] w fun e w'=>∃ q gq s' m',e=.returned (.tuple #[q,.int .i64 0])/\aO gq (gq+1) w' q (A/C)/\w.heap.size<=gq/\aw w' gv gr gd gm gt gk ge g s' l m' T/\(0<=s'/\s'<=s+9007199254740992)/\Out (·=g) w w'
def nZ:Prop:=∀(w:World) (gv gr gd gm gt gk ge g:Nat) (s l m:Int) (T:Tab) (u v:Value) (A C:Nat) (x:Int),
 aw w gv gr gd gm gt gk ge g s l m T->TB w->0<=s->s<=576460752303423488->0<=l->l<=900->aX w u A->aX w v C->wl A<=250->wl C<=250->((C=0/\x=2)\/(0<C/\A%C≠0/\x=5))->
 Calls Tryz.prog 32 #[.pointer (some ⟨gv,0,none⟩),u,v] w fun e w'=>∃ qa qc s' m',e=.returned (.tuple #[.slice qa 0 qc,.int .i64 x])/\aw w' gv gr gd gm gt gk ge g s' l m' T/\(0<=s'/\s'<=s+9007199254740992)/\Out (·=g) w w'
def FP(w:World)(gv gr gd gm gt gk ge g:Nat)(s l:Int)(T:Tab)(A np:Nat)(ns:List Nat)(e:Ending)(w':World):Prop:=
 ∃(ga:Option Addr) (bx ox cx:Nat) (rs:Nat->Value) (s' m':Int),e=.returned (.tuple #[.slice ga np cx,.int .i64 0])/\np<=cx/\(0<np->ga=some ⟨bx,ox,none⟩/\w.heap.size<=bx)/\(∀ j,j<np->w'.cell? ⟨bx,ox+j,none⟩=some (rs j)/\ah w.heap.size w' (rs j) (A%ns.getD j 0))/\aw w' gv gr gd gm gt gk ge g s' l m' T/\(0<=s'/\s'<=s+9007199254740992)/\Out (·=g) w w'
def vy:Prop:=∀(w:World) (gv gr gd gm gt gk ge g:Nat) (s l m:Int) (T:Tab) (u:Value) (A:Nat) (gp:Option Addr) (bp op cp np K:Nat) (vs:List Value) (ns:List Nat),
 aw w gv gr gd gm gt gk ge g s l m T->TB w->0<=s->s<=576460752303423488->0<=l->l<=900->aX w u A->wl A<=100->vs.length=np->np<=20->np<=cp->K<=20->eb K w gp bp op vs ns->(∀ j,j<np->0<ns.getD j 0)->
 Calls Tryz.prog 35 #[.pointer (some ⟨gv,0,none⟩),u,.slice gp np cp] w (FP w gv gr gd gm gt gk ge g s l T A np ns)
def po:Prop:=∀(w:World) (gv gr gd gm gt gk ge g:Nat) (s l m:Int) (T:Tab) (u:Value) (A:Nat) (gp:Option Addr) (bp op cp np K:Nat) (vs:List Value) (ns:List Nat),
 aw w gv gr gd gm gt gk ge g s l m T->TB w->0<=s->s<=576460752303423488->0<=l->l<=900->aX w u A->wl A<=100->vs.length=np->np<=20->np<=cp->K<=20->eb K w gp bp op vs ns->(∃ j,j<np/\ns.getD j 0=0)->
 Calls Tryz.prog 35 #[.pointer (some ⟨gv,0,none⟩),u,.slice gp np cp] w fun e w'=>∃ qa qc s' m',e=.returned (.tuple #[.slice qa 0 qc,.int .i64 2])/\aw w' gv gr gd gm gt gk ge g s' l m' T/\(0<=s'/\s'<=s+9007199254740992)/\Out (·=g) w w'
def nY:Prop:=∀(w:World) (gv gr gd gm gt gk ge g:Nat) (s l m:Int) (T:Tab) (v:Value) (C:Nat) (gp:Option Addr) (bp op cp np K:Nat) (vs:List Value) (ns:List Nat) (q:Bool),
 aw w gv gr gd gm gt gk ge g s l m T->TB w->0<=s->s<=576460752303423488->0<=l->l<=900->aX w v C->0<C->wl C<=100->vs.length=np->np<=20->np<=cp->K<=20->eb K w gp bp op vs ns->(q=true↔∀ j,j<np->ns.getD j 0%C=0)->
 Calls Tryz.prog 37 #[.pointer (some ⟨gv,0,none⟩),v,.slice gp np cp] w fun e w'=>∃ s' m',e=.returned (.tuple #[.bool q,.int .i64 0])/\aw w' gv gr gd gm gt gk ge g s' l m' T/\(0<=s'/\s'<=s+9007199254740992)/\Out (·=g) w w'
def kW:Prop:=∀(w:World) (gv gr gd gm gt gk ge g:Nat) (s l m:Int) (T:Tab) (v:Value) (gp:Option Addr) (bp op cp np K:Nat) (vs:List Value) (ns:List Nat),
 aw w gv gr gd gm gt gk ge g s l m T->TB w->0<=s->s<=576460752303423488->0<=l->l<=900->aX w v 0->vs.length=np->np<=20->np<=cp->K<=20->eb K w gp bp op vs ns->
 Calls Tryz.prog 37 #[.pointer (some ⟨gv,0,none⟩),v,.slice gp np cp] w fun e w'=>∃ s' m',e=.returned (.tuple #[.bool false,.int .i64 2])/\aw w' gv gr gd gm gt gk ge g s' l m' T/\(0<=s'/\s'<=s+9007199254740992)/\Out (·=g) w w'
end Go.Proofs.YtpdpnomocbehkaaGreatDoor
/- Package conv:the plans of the three primes. -/
namespace Go.Proofs.YtpdpnomocbehkaaGreatDoor
open Go.RowKit
def FM:Nat->Nat
 |0=>eG
 |1=>dZ
 |_=>bZ
def pn(w:World)(B L p gt:Nat)(S:Int):Prop:=∃(r gm go gp H:Nat) (s l m:Int),PS w gt gm go 0 gp p r L H/\Met w go 0 s l m/\0<=s/\s<=S/\B<=go
theorem pn.next{w w':World}{B L p gt:Nat}{S:Int}(h:pn w B L p gt S)(b:Below w.heap.size w w'):pn w' B L p gt S:=by
 obtain⟨r,gm,go,gp,H,s,l,m,P,M,h0,h1,h2⟩:=h
 exact⟨r,gm,go,gp,H,s,l,m,P.next b,M.next b,h0,h1,h2⟩
theorem PS.away{w:World}{gt gm go oo gp p r L H k:Nat}{s l m:Int}(h:PS w gt gm go oo gp p r L H)(hL:1<=L)(hM:Met w k 0 s l m):gt≠k/\gm≠k/\gp≠k:=by
 have c:=hM.c0
 refine⟨?_,?_,?_⟩
 ·rintro rfl
  rw[h.c0]at c
  injection c with c
  cases c
 ·rintro rfl
  rw[h.mw.c0]at c
  injection c with c
  cases c
 ·rintro rfl
  have hH:1<=H:=by
   obtain⟨t,rfl⟩:∃ t,L=t+1:=⟨L-1,by omega⟩
   have:=h.half
   rw[Nat.pow_succ,Nat.mul_div_cancel _ (by decide)]at this
   rw[this]
   exact aK t
  have e:=h.pw.cell 0 (by rw[fh];exact hH)
  rw[e]at c
  injection c with c
  cases c
theorem pn.spent{w w':World}{B L p gt k:Nat}{S S' s l m s' l' m':Int}(h:pn w B L p gt S)(hL:1<=L)(hM:Met w k 0 s l m)(hM':Met w' k 0 s' l' m')(hT:Touch k 0 3 w w')(h0:0<=s')(h1:s'<=S')(hS:S<=S'):pn w' B L p gt S':=by
 obtain⟨r,gm,go,gp,H,s1,l1,m1,P,M,a0,a1,a2⟩:=h
 obtain⟨n1,n2,n3⟩:=P.away hL hM
 have P':=P.off hT.grown n1 n2 n3
 by_cases e:go=k
 ·subst e
  exact⟨r,gm,go,gp,H,s',l',m',P',hM',h0,h1,a2⟩
 ·exact⟨r,gm,go,gp,H,s1,l1,m1,P',M.but hT.grown e,a0,by omega,a2⟩
theorem Bq:∀ j,j<3->∃ X,Nv (FM j) X
 |0,_=>⟨3,N9⟩
 |1,_=>⟨5,KI⟩
 |2,_=>⟨3,KJ⟩
theorem Jt:∀ j,j<3->20<=tw (FM j)
 |0,_=>by decide+kernel
 |1,_=>by decide+kernel
 |2,_=>by decide+kernel
theorem MO{j L:Nat}(hj:j<3)(hL:L<=20):(FM j-1)/2^L*2^L=FM j-1:=by
 obtain⟨X,hX⟩:=Bq j hj
 have h:=Jt j hj
 have ho:=hX.odd
 exact Bw ho.2.1 (by have:=ho.2.2;omega) (Nat.le_trans hL h)
theorem jQ{w:World}{G j L:Nat}{s l m:Int}(hM:Met w G 0 s l m)(hj:j<3)(hL:L<=20)(hT:TB w)(h0:0<=s)(S:Int)(h1:s<=S)(B:Nat)(hB:B<=G):
  Calls Tryz.prog 175 #[.pointer (some ⟨G,0,none⟩),.int .u64 (FM j:Int),.int .i64 (L:Int)] w fun e w'=>∃ gt,e=.returned (.tuple #[.pointer (some ⟨gt,0,none⟩),.int .i64 0])/\pn w' B L (FM j) gt S/\Below w.heap.size w w':=by
 obtain⟨X,hX⟩:=Bq j hj
 refine(zC hM hX hL (Nat.le_trans hL (Jt j hj)) hT).mono ?_
 rintro e w' ⟨gt,gm,gp,H,rfl,P,_,b⟩
 exact⟨gt,rfl,⟨_,gm,G,gp,H,s,l,m,P,hM.next b,h0,h1,hB⟩,b⟩
theorem pn.box{w w':World}{B L p gt G:Nat}{S:Int}{a c:Option Addr}(h:pn w B L p gt S)(hL:1<=L)(h0:w.cell? ⟨G,0,none⟩=some (.pointer a))(h2:w.cell? ⟨G,2,none⟩=some (.pointer c))(hb:w.grownBy w' (some G)):pn w' B L p gt S:=by
 obtain⟨r,gm,go,gp,H,s1,l1,m1,P,M,a0,a1,a2⟩:=h
 have n1:gt≠G:=by
  rintro rfl
  rw[P.c2]at h2
  injection h2 with e
  cases e
 have n2:gm≠G:=by
  rintro rfl
  rw[P.mw.c0]at h0
  injection h0 with e
  cases e
 have n3:gp≠G:=by
  rintro rfl
  have hH:1<=H:=by
   obtain⟨t,rfl⟩:∃ t,L=t+1:=⟨L-1,by omega⟩
   have:=P.half
   rw[Nat.pow_succ,Nat.mul_div_cancel _ (by decide)]at this
   rw[this]
   exact aK t
  have e:=P.pw.cell 0 (by rw[fh];exact hH)
  rw[e]at h0
  injection h0 with e
  cases e
 have n4:go≠G:=by
  rintro rfl
  rw[M.c0]at h0
  injection h0 with e
  cases e
 exact⟨r,gm,go,gp,H,s1,l1,m1,P.off hb n1 n2 n3,M.but hb n4,a0,a1,a2⟩
def eZ(w:World)(B L k:Nat)(S:Int)(a0 a1 a2:Option Addr):Prop:=(0<k->∃ gt,a0=some ⟨gt,0,none⟩/\pn w B L eG gt S)/\(1<k->∃ gt,a1=some ⟨gt,0,none⟩/\pn w B L dZ gt S)/\(2<k->∃ gt,a2=some ⟨gt,0,none⟩/\pn w B L bZ gt S)
theorem eZ.next{w w':World}{B L k:Nat}{S:Int}{a0 a1 a2:Option Addr}(h:eZ w B L k S a0 a1 a2)(b:Below w.heap.size w w'):eZ w' B L k S a0 a1 a2:=by
 refine⟨fun hk=>?_,fun hk=>?_,fun hk=>?_⟩
 ·obtain⟨gt,e,P⟩:=h.1 hk;exact⟨gt,e,P.next b⟩
 ·obtain⟨gt,e,P⟩:=h.2.1 hk;exact⟨gt,e,P.next b⟩
 ·obtain⟨gt,e,P⟩:=h.2.2 hk;exact⟨gt,e,P.next b⟩
theorem eZ.box{w w':World}{B L k G:Nat}{S:Int}{a0 a1 a2 a c:Option Addr}(h:eZ w B L k S a0 a1 a2)(hL:1<=L)(h0:w.cell? ⟨G,0,none⟩=some (.pointer a))(h2:w.cell? ⟨G,2,none⟩=some (.pointer c))(hb:w.grownBy w' (some G)):eZ w' B L k S a0 a1 a2:=by
 refine⟨fun hk=>?_,fun hk=>?_,fun hk=>?_⟩
 ·obtain⟨gt,e,P⟩:=h.1 hk;exact⟨gt,e,P.box hL h0 h2 hb⟩
 ·obtain⟨gt,e,P⟩:=h.2.1 hk;exact⟨gt,e,P.box hL h0 h2 hb⟩
 ·obtain⟨gt,e,P⟩:=h.2.2 hk;exact⟨gt,e,P.box hL h0 h2 hb⟩
theorem eZ.start(w:World)(B L:Nat)(S:Int)(a0 a1 a2:Option Addr):eZ w B L 0 S a0 a1 a2:=⟨fun h=>absurd h (by omega),fun h=>absurd h (by omega),fun h=>absurd h (by omega)⟩
theorem eZ.one{w:World}{B L gt:Nat}{S:Int}{a0 a1 a2:Option Addr}(_h:eZ w B L 0 S a0 a1 a2)(P:pn w B L eG gt S):eZ w B L 1 S (some ⟨gt,0,none⟩) a1 a2:=⟨fun _=>⟨gt,rfl,P⟩,fun h=>absurd h (by omega),fun h=>absurd h (by omega)⟩
theorem eZ.two{w:World}{B L gt:Nat}{S:Int}{a0 a1 a2:Option Addr}(h:eZ w B L 1 S a0 a1 a2)(P:pn w B L dZ gt S):eZ w B L 2 S a0 (some ⟨gt,0,none⟩) a2:=⟨fun _=>h.1 (by omega),fun _=>⟨gt,rfl,P⟩,fun h=>absurd h (by omega)⟩
theorem eZ.three{w:World}{B L gt:Nat}{S:Int}{a0 a1 a2:Option Addr}(h:eZ w B L 2 S a0 a1 a2)(P:pn w B L bZ gt S):eZ w B L 3 S a0 a1 (some ⟨gt,0,none⟩):=⟨fun _=>h.1 (by omega),fun _=>h.2.1 (by omega),fun _=>⟨gt,rfl,P⟩⟩
theorem VB3.mk(w:World)(t:Nat):fM (w.alloc (.cells #[.pointer none,.pointer none,.pointer none] t)) w.heap.size [.pointer none,.pointer none,.pointer none] t:=heap_alloc_new w _
theorem Eh(w:World):(Instr.index 215 (.agg #[.int .u64 180143985094819841,.int .i64 55,.int .u64 6,.int .u64 1945555039024054273,.int .i64 56,.int .u64 5,.int .u64 4179340454199820289,.int .i64 57,.int .u64 3]) (.int .i64 0)).run Tryz.prog w=.ok (.agg #[.int .u64 180143985094819841,.int .i64 55,.int .u64 6]) w:=by kernel_rfl
theorem Ei(w:World):(Instr.index 215 (.agg #[.int .u64 180143985094819841,.int .i64 55,.int .u64 6,.int .u64 1945555039024054273,.int .i64 56,.int .u64 5,.int .u64 4179340454199820289,.int .i64 57,.int .u64 3]) (.int .i64 1)).run Tryz.prog w=.ok (.agg #[.int .u64 1945555039024054273,.int .i64 56,.int .u64 5]) w:=by kernel_rfl
theorem Ej(w:World):(Instr.index 215 (.agg #[.int .u64 180143985094819841,.int .i64 55,.int .u64 6,.int .u64 1945555039024054273,.int .i64 56,.int .u64 5,.int .u64 4179340454199820289,.int .i64 57,.int .u64 3]) (.int .i64 2)).run Tryz.prog w=.ok (.agg #[.int .u64 4179340454199820289,.int .i64 57,.int .u64 3]) w:=by kernel_rfl
set_option maxRecDepth 100000 in
set_option maxHeartbeats 6400000 in
theorem Ef(w:World)(n L:Nat)(h1:2<=n)(h2:n<=1048576)(hL:L=Lib.bitLen (n-1))(hL2:L<=20)(hT:TB w):
  Calls Tryz.prog 164 #[.int .i64 (n:Int)] w fun e w'=>∃ a0 a1 a2,e=.returned (.agg #[.pointer a0,.pointer a1,.pointer a2])/\eZ w' w.heap.size L 3 0 a0 a1 a2/\Below w.heap.size w w':=by
 have CL:Hid (∀ w,Calls Tryz.prog 173 #[.int .u64 ((n:Int)-1)] w fun e w'=>e=.returned (.int .i64 (L:Int))/\w'=w):=fun w=>by
  have:=og ((n:Int)-1) w (by omega) (by omega)
  rwa [show((n:Int)-1).toNat=n-1 from by omega, <-hL]at this
 have C3:=hide (fun w=>jA w)
 have HTB:=hide (fun w' (b:Below w.heap.size w w')=>hT.next b)
 have b1:Below w.heap.size w (w.alloc (.cells #[.pointer none,.pointer none,.pointer none] 202)):=(Below.refl _ _).alloc (Nat.le_refl _) _
 have hR:=VB3.mk w 202
 have sz1:(w.alloc (.cells #[.pointer none,.pointer none,.pointer none] 202)).heap.size=w.heap.size+1:=by simp
 obtain⟨W1,hW1⟩:∃ W1,w.alloc (.cells #[.pointer none,.pointer none,.pointer none] 202)=W1:=⟨_,rfl⟩
 rw[hW1]at b1 hR sz1
 have b2:Below W1.heap.size W1 (W1.alloc (.cells #[.pointer none,.pointer none,.pointer none] 202)):=(Below.refl _ _).alloc (Nat.le_refl _) _
 have hG0:=VB3.mk W1 202
 have sz2:(W1.alloc (.cells #[.pointer none,.pointer none,.pointer none] 202)).heap.size=W1.heap.size+1:=by simp
 obtain⟨W2,hW2⟩:∃ W2,W1.alloc (.cells #[.pointer none,.pointer none,.pointer none] 202)=W2:=⟨_,rfl⟩
 rw[hW2]at b2 hG0 sz2
 obtain⟨G,hG⟩:∃ G,W1.heap.size=G:=⟨_,rfl⟩
 rw[hG]at hG0
 have WG:Hid (w.heap.size<=G):=by show _<=_;omega
 obtain⟨R,hR0⟩:∃ R,w.heap.size=R:=⟨_,rfl⟩
 rw[hR0]at hR
 have RG:Hid (R≠G):=by show ¬_;omega
 have WR:Hid (w.heap.size<=R):=Nat.le_of_eq hR0
 have bl:=hide (ag b1 b2)
 have HV0:=hide hG0
 have HR:=hide (hR.next b2)
 have hL1:Hid (1<=L):=by show 1<=L;have:=(iG 20 (n-1) (by omega) (by omega) (by omega)).1;omega
 clear hL hT b1 b2 hR hG0 sz1 sz2
 go_enter Tryz.func164,Tryz.ntmps164
 go_wp2_with fail
 refine(ae CL _).mono ?_
 rintro e w1 ⟨rfl,hw⟩
 obtain rfl:=hw.symm
 clear hw CL
 go_wp2_with fail
 refine(ae C3 _).mono ?_
 rintro e w3 ⟨rfl,b⟩
 have bl:=hide (ag (ae bl) b)
 have HV0:=hide ((ae HV0).next b)
 have HR:=hide ((ae HR).next b)
 clear C3 b hW1 hW2 hG
 go_wp2
 clear hR0
 go_loopw [12] (fun iv wr=>∃(k:Nat) (a0 a1 a2:Option Addr),k<=3/\iv=.int .i64 (k:Int)/\fM wr G [.pointer a0,.pointer a1,.pointer a2] 202/\fM wr R [.pointer none,.pointer none,.pointer none] 202/\eZ wr w.heap.size L k 0 a0 a1 a2/\Below w.heap.size w wr) (fun iv _=>3-(intOf iv).toNat)
 case atStart=>exact⟨0,none,none,none,by decide,rfl,ae HV0,ae HR,eZ.start _ _ _ _ _ _ _,ae bl⟩
 case round=>
  have hL1:=ae hL1
  clear HV0 bl
  obtain⟨k,a0,a1,a2,hk,rfl,hV,hRw,hP,hb⟩:=hrel
  have hk4:k=0\/k=1\/k=2\/k=3:=by omega
  clear hk
  rcases hk4 with rfl|rfl|rfl|rfl
  ·have hix:=Eh
   have bA:Below wr.heap.size wr (wr.alloc (.cells #[.int .u64 180143985094819841,.int .i64 55,.int .u64 6] 214)):=(Below.refl _ _).alloc (Nat.le_refl _) _
   have mt:=uj (wr.alloc (.cells #[.int .u64 180143985094819841,.int .i64 55,.int .u64 6] 214)) 63
   have bB:Below wr.heap.size wr ((wr.alloc (.cells #[.int .u64 180143985094819841,.int .i64 55,.int .u64 6] 214)).alloc (.cells #[.int .i64 0,.int .i64 0,.int .i64 0] 63)):=bA.alloc bA.size _
   have e1:(wr.alloc (.cells #[.int .u64 180143985094819841,.int .i64 55,.int .u64 6] 214)).heap.size=wr.heap.size+1:=by simp
   rw[e1]at mt
   have hTw:=ae HTB _ (ag hb bB)
   have hsz:w.heap.size<=wr.heap.size+1:=by have:=hb.size;omega
   have CP:Hid (Calls Tryz.prog 175 #[.pointer (some ⟨wr.heap.size+1,0,none⟩),.int .u64 180143985094819841,.int .i64 (L:Int)] ((wr.alloc (.cells #[.int .u64 180143985094819841,.int .i64 55,.int .u64 6] 214)).alloc (.cells #[.int .i64 0,.int .i64 0,.int .i64 0] 63)) fun e w'=>∃ gt,e=.returned (.tuple #[.pointer (some ⟨gt,0,none⟩),.int .i64 0])/\pn w' w.heap.size L (FM 0) gt 0/\Below ((wr.alloc (.cells #[.int .u64 180143985094819841,.int .i64 55,.int .u64 6] 214)).alloc (.cells #[.int .i64 0,.int .i64 0,.int .i64 0] 63)).heap.size ((wr.alloc (.cells #[.int .u64 180143985094819841,.int .i64 55,.int .u64 6] 214)).alloc (.cells #[.int .i64 0,.int .i64 0,.int .i64 0] 63)) w'):=jQ (j:=0) mt (by decide) hL2 hTw (by decide) 0 (by decide) w.heap.size hsz
   have BB:=hide bB
   have HB:=hide hb
   have HV:=hide hV
   have HRw:=hide hRw
   have HP:=hide hP
   clear bA mt bB e1 hTw hsz hb hV hP hRw
   go_wp2_with fail
   refine(ae CP).mono ?_
   rintro e w5 ⟨gt,rfl,hPl,b5⟩
   have b6:=ag (ae BB) b5
   have V6:=(ae HV).next b6
   have q0:w5.cell? ⟨G,0,none⟩=some (.pointer a0):=V6.cell 0 (by simp)
   have q2:w5.cell? ⟨G,2,none⟩=some (.pointer a2):=V6.cell 2 (by simp)
   have cv:w5.cell? ⟨G,0,none⟩=some (.pointer a0):=V6.cell 0 (by simp)
   have fv:=V6.frozen 0
   have V7:Hid (fM (w5.setCell ⟨G,0,none⟩ (.pointer (some ⟨gt,0,none⟩))) G [.pointer (some ⟨gt,0,none⟩),.pointer a1,.pointer a2] 202):=V6.set 0 (.pointer (some ⟨gt,0,none⟩))
   have B7:=hide ((ag (ae HB) b6).setCell (p:=⟨G,0,none⟩) (ae WG) (.pointer (some ⟨gt,0,none⟩)))
   have P7:=hide ((((ae HP).next b6).one hPl).box hL1 q0 q2 (aj _ G 0 (.pointer (some ⟨gt,0,none⟩))))
   have R7:=hide (((ae HRw).next b6).but (aj w5 G 0 (.pointer (some ⟨gt,0,none⟩))) (ae RG))
   clear hPl b5 b6 V6 CP BB q0 q2
   go_wp2
   go_roundw
   case rel=>exact⟨1,_,_,_,by decide,rfl,ae V7,ae R7,ae P7,ae B7⟩
   case measure=>simp[intOf]
  ·have hix:=Ei
   have bA:Below wr.heap.size wr (wr.alloc (.cells #[.int .u64 1945555039024054273,.int .i64 56,.int .u64 5] 214)):=(Below.refl _ _).alloc (Nat.le_refl _) _
   have mt:=uj (wr.alloc (.cells #[.int .u64 1945555039024054273,.int .i64 56,.int .u64 5] 214)) 63
   have bB:Below wr.heap.size wr ((wr.alloc (.cells #[.int .u64 1945555039024054273,.int .i64 56,.int .u64 5] 214)).alloc (.cells #[.int .i64 0,.int .i64 0,.int .i64 0] 63)):=bA.alloc bA.size _
   have e1:(wr.alloc (.cells #[.int .u64 1945555039024054273,.int .i64 56,.int .u64 5] 214)).heap.size=wr.heap.size+1:=by simp
   rw[e1]at mt
   have hTw:=ae HTB _ (ag hb bB)
   have hsz:w.heap.size<=wr.heap.size+1:=by have:=hb.size;omega
   have CP:Hid (Calls Tryz.prog 175 #[.pointer (some ⟨wr.heap.size+1,0,none⟩),.int .u64 1945555039024054273,.int .i64 (L:Int)] ((wr.alloc (.cells #[.int .u64 1945555039024054273,.int .i64 56,.int .u64 5] 214)).alloc (.cells #[.int .i64 0,.int .i64 0,.int .i64 0] 63)) fun e w'=>∃ gt,e=.returned (.tuple #[.pointer (some ⟨gt,0,none⟩),.int .i64 0])/\pn w' w.heap.size L (FM 1) gt 0/\Below ((wr.alloc (.cells #[.int .u64 1945555039024054273,.int .i64 56,.int .u64 5] 214)).alloc (.cells #[.int .i64 0,.int .i64 0,.int .i64 0] 63)).heap.size ((wr.alloc (.cells #[.int .u64 1945555039024054273,.int .i64 56,.int .u64 5] 214)).alloc (.cells #[.int .i64 0,.int .i64 0,.int .i64 0] 63)) w'):=jQ (j:=1) mt (by decide) hL2 hTw (by decide) 0 (by decide) w.heap.size hsz
   have BB:=hide bB
   have HB:=hide hb
   have HV:=hide hV
   have HRw:=hide hRw
   have HP:=hide hP
   clear bA mt bB e1 hTw hsz hb hV hP hRw
   go_wp2_with fail
   refine(ae CP).mono ?_
   rintro e w5 ⟨gt,rfl,hPl,b5⟩
   have b6:=ag (ae BB) b5
   have V6:=(ae HV).next b6
   have q0:w5.cell? ⟨G,0,none⟩=some (.pointer a0):=V6.cell 0 (by simp)
   have q2:w5.cell? ⟨G,2,none⟩=some (.pointer a2):=V6.cell 2 (by simp)
   have cv:w5.cell? ⟨G,1,none⟩=some (.pointer a1):=V6.cell 1 (by simp)
   have fv:=V6.frozen 1
   have V7:Hid (fM (w5.setCell ⟨G,1,none⟩ (.pointer (some ⟨gt,0,none⟩))) G [.pointer a0,.pointer (some ⟨gt,0,none⟩),.pointer a2] 202):=V6.set 1 (.pointer (some ⟨gt,0,none⟩))
   have B7:=hide ((ag (ae HB) b6).setCell (p:=⟨G,1,none⟩) (ae WG) (.pointer (some ⟨gt,0,none⟩)))
   have P7:=hide ((((ae HP).next b6).two hPl).box hL1 q0 q2 (aj _ G 1 (.pointer (some ⟨gt,0,none⟩))))
   have R7:=hide (((ae HRw).next b6).but (aj w5 G 1 (.pointer (some ⟨gt,0,none⟩))) (ae RG))
   clear hPl b5 b6 V6 CP BB q0 q2
   go_wp2
   go_roundw
   case rel=>exact⟨2,_,_,_,by decide,rfl,ae V7,ae R7,ae P7,ae B7⟩
   case measure=>simp[intOf]
  ·have hix:=Ej
   have bA:Below wr.heap.size wr (wr.alloc (.cells #[.int .u64 4179340454199820289,.int .i64 57,.int .u64 3] 214)):=(Below.refl _ _).alloc (Nat.le_refl _) _
   have mt:=uj (wr.alloc (.cells #[.int .u64 4179340454199820289,.int .i64 57,.int .u64 3] 214)) 63
   have bB:Below wr.heap.size wr ((wr.alloc (.cells #[.int .u64 4179340454199820289,.int .i64 57,.int .u64 3] 214)).alloc (.cells #[.int .i64 0,.int .i64 0,.int .i64 0] 63)):=bA.alloc bA.size _
   have e1:(wr.alloc (.cells #[.int .u64 4179340454199820289,.int .i64 57,.int .u64 3] 214)).heap.size=wr.heap.size+1:=by simp
   rw[e1]at mt
   have hTw:=ae HTB _ (ag hb bB)
   have hsz:w.heap.size<=wr.heap.size+1:=by have:=hb.size;omega
   have CP:Hid (Calls Tryz.prog 175 #[.pointer (some ⟨wr.heap.size+1,0,none⟩),.int .u64 4179340454199820289,.int .i64 (L:Int)] ((wr.alloc (.cells #[.int .u64 4179340454199820289,.int .i64 57,.int .u64 3] 214)).alloc (.cells #[.int .i64 0,.int .i64 0,.int .i64 0] 63)) fun e w'=>∃ gt,e=.returned (.tuple #[.pointer (some ⟨gt,0,none⟩),.int .i64 0])/\pn w' w.heap.size L (FM 2) gt 0/\Below ((wr.alloc (.cells #[.int .u64 4179340454199820289,.int .i64 57,.int .u64 3] 214)).alloc (.cells #[.int .i64 0,.int .i64 0,.int .i64 0] 63)).heap.size ((wr.alloc (.cells #[.int .u64 4179340454199820289,.int .i64 57,.int .u64 3] 214)).alloc (.cells #[.int .i64 0,.int .i64 0,.int .i64 0] 63)) w'):=jQ (j:=2) mt (by decide) hL2 hTw (by decide) 0 (by decide) w.heap.size hsz
   have BB:=hide bB
   have HB:=hide hb
   have HV:=hide hV
   have HRw:=hide hRw
   have HP:=hide hP
   clear bA mt bB e1 hTw hsz hb hV hP hRw
   go_wp2_with fail
   refine(ae CP).mono ?_
   rintro e w5 ⟨gt,rfl,hPl,b5⟩
   have b6:=ag (ae BB) b5
   have V6:=(ae HV).next b6
   have q0:w5.cell? ⟨G,0,none⟩=some (.pointer a0):=V6.cell 0 (by simp)
   have q2:w5.cell? ⟨G,2,none⟩=some (.pointer a2):=V6.cell 2 (by simp)
   have cv:w5.cell? ⟨G,2,none⟩=some (.pointer a2):=V6.cell 2 (by simp)
   have fv:=V6.frozen 2
   have V7:Hid (fM (w5.setCell ⟨G,2,none⟩ (.pointer (some ⟨gt,0,none⟩))) G [.pointer a0,.pointer a1,.pointer (some ⟨gt,0,none⟩)] 202):=V6.set 2 (.pointer (some ⟨gt,0,none⟩))
   have B7:=hide ((ag (ae HB) b6).setCell (p:=⟨G,2,none⟩) (ae WG) (.pointer (some ⟨gt,0,none⟩)))
   have P7:=hide ((((ae HP).next b6).three hPl).box hL1 q0 q2 (aj _ G 2 (.pointer (some ⟨gt,0,none⟩))))
   have R7:=hide (((ae HRw).next b6).but (aj w5 G 2 (.pointer (some ⟨gt,0,none⟩))) (ae RG))
   clear hPl b5 b6 V6 CP BB q0 q2
   go_wp2
   go_roundw
   case rel=>exact⟨3,_,_,_,by decide,rfl,ae V7,ae R7,ae P7,ae B7⟩
   case measure=>simp[intOf]
  ·have g0:wr.cell? ⟨G,0,none⟩=some (.pointer a0):=hV.cell 0 (by simp)
   have g1:wr.cell? ⟨G,1,none⟩=some (.pointer a1):=hV.cell 1 (by simp)
   have g2:wr.cell? ⟨G,2,none⟩=some (.pointer a2):=hV.cell 2 (by simp)
   have z0:wr.cell? ⟨R,0,none⟩=some (.pointer none):=hRw.cell 0 (by simp)
   have z1:wr.cell? ⟨R,1,none⟩=some (.pointer none):=hRw.cell 1 (by simp)
   have z2:wr.cell? ⟨R,2,none⟩=some (.pointer none):=hRw.cell 2 (by simp)
   have f0:=hRw.frozen 0
   have f1:=hRw.frozen 1
   have f2:=hRw.frozen 2
   have HP:=hide (hP.box hL1 z0 z2 (av (av (aj wr R 0 (.pointer a0)) (aj _ R 1 (.pointer a1))) (aj _ R 2 (.pointer a2))))
   have HB:=hide (((hb.setCell (p:=⟨R,0,none⟩) (ae WR) (.pointer a0)).setCell (p:=⟨R,1,none⟩) (ae WR) (.pointer a1)).setCell (p:=⟨R,2,none⟩) (ae WR) (.pointer a2))
   clear hP hb hV hRw
   go_wp2
   refine bodyPost_ret (v:=.agg #[.pointer a0,.pointer a1,.pointer a2]) (by simp[results,Tryz.results164,go_sem,z0,z1,z2]) rfl ?_
   exact⟨a0,a1,a2,rfl,ae HP,ae HB⟩
end Go.Proofs.YtpdpnomocbehkaaGreatDoor
/- What the statements on package conv ask of its calls:as propositions,for whatever code. -/
namespace Go.Proofs.YtpdpnomocbehkaaGreatDoor
open Go.RowKit
theorem OO(n m ways:Nat)(w:World)(h1:1<=n)(h2:n<=16384)(h3:1<=m)(h4:m<=16384)(h5:ways<=3):
  Calls Tryz.prog 163 #[.int .i64 (n:Int),.int .i64 (m:Int),.int .i64 (ways:Int)] w fun e w'=>e=.returned (.int .i64 (tf n m ways:Int))/\w'=w:=by
 have:=qF (n:Int) (m:Int) (ways:Int) w
 rw[Bl h1 h2 h3 h4 h5]at this
 exact this
end Go.Proofs.YtpdpnomocbehkaaGreatDoor
/- What the statements on package conv ask of Words,and the sums that they reckon by hand. -/
namespace Go.Proofs.YtpdpnomocbehkaaGreatDoor
open Go.RowKit
def ps(xs ys:List Nat)(k:Nat):Nat->Nat
 |0=>0
 |i+1=>ps xs ys k i+if i<=k/\k-i<ys.length then xs.getD i 0*ys.getD (k-i) 0 else 0
end Go.Proofs.YtpdpnomocbehkaaGreatDoor
/- Package conv:Words. -/
namespace Go.Proofs.YtpdpnomocbehkaaGreatDoor
open Go.RowKit
theorem TB.touch{w w':World}{g o:Nat}{s l m:Int}(h:TB w)(hM:Met w g o s l m)(hT:Touch g o 3 w w'):TB w':=
 ⟨fun j hj=>Touch.keep hM hT (h.b j hj) (fun x e=>by cases e),fun j hj=>Touch.keep hM hT (h.d j hj) (fun x e=>by cases e)⟩
set_option maxHeartbeats 800000 in
theorem KH(n m:Nat)(w:World)(h1:1<=n)(h2:1<=m)(h3:n+m<=1048576):
  Calls Tryz.prog 162 #[.int .i64 (n:Int),.int .i64 (m:Int)] w fun e w'=>e=.returned (.bool true)/\w'=w:=by
 obtain⟨t,ht⟩:∃ t,t=n+m:=⟨_,rfl⟩
 have e1:(n:Int)+(m:Int)=(t:Int):=by omega
 have e2:IntKind.i64.wrap (t:Int)=(t:Int):=by rw[IntKind.wrap_i64];omega
 have q1:(0:Int)<(n:Int):=by omega
 have q2:(0:Int)<(m:Int):=by omega
 have q3:(t:Int)<=1048576:=by omega
 clear ht
 go_enter Tryz.func162,Tryz.ntmps162
 go_wp2
 go_ret
 exact⟨rfl,rfl⟩
def lk(w:World)(p q N:Nat)(T:Nat->Nat)(v:Value):Prop:=∃ g zs,v=.slice (some ⟨g,0,none⟩) q N/\aD w g zs/\q<=zs.length/\zs.length=N/\∀ i,i<q->zs.getD i 0=T i%p
theorem lk.touch{w w':World}{p q N k:Nat}{T:Nat->Nat}{v:Value}{s l m:Int}(h:lk w p q N T v)(hq:1<=q)(hM:Met w k 0 s l m)(hT:Touch k 0 3 w w'):lk w' p q N T v:=by
 obtain⟨g,zs,e,hB,h1,h2,h3⟩:=h
 refine⟨g,zs,e,hB.but hT.grown ?_,h1,h2,h3⟩
 rintro rfl
 have c:=hB.cell 0 (by omega)
 rw[hM.c0]at c
 injection c with c
 cases c
theorem lk.box{w w':World}{p q N G:Nat}{T:Nat->Nat}{v:Value}{a:Option Addr}{n c:Nat}(h:lk w p q N T v)(hq:1<=q)(h0:w.cell? ⟨G,0,none⟩=some (.slice a n c))(hb:w.grownBy w' (some G)):lk w' p q N T v:=by
 obtain⟨g,zs,e,hB,h1,h2,h3⟩:=h
 refine⟨g,zs,e,hB.but hb ?_,h1,h2,h3⟩
 rintro rfl
 have c:=hB.cell 0 (by omega)
 rw[h0]at c
 injection c with c
 cases c
theorem pn.rows{w w':World}{B L p gt G:Nat}{S:Int}{a:Option Addr}{n c:Nat}(h:pn w B L p gt S)(hL:1<=L)(h0:w.cell? ⟨G,0,none⟩=some (.slice a n c))(hb:w.grownBy w' (some G)):pn w' B L p gt S:=by
 obtain⟨r,gm,go,gp,H,s1,l1,m1,P,M,a0,a1,a2⟩:=h
 have n1:gt≠G:=by
  rintro rfl
  rw[P.c0]at h0
  injection h0 with e
  cases e
 have n2:gm≠G:=by
  rintro rfl
  rw[P.mw.c0]at h0
  injection h0 with e
  cases e
 have n3:gp≠G:=by
  rintro rfl
  have hH:1<=H:=by
   obtain⟨t,rfl⟩:∃ t,L=t+1:=⟨L-1,by omega⟩
   have:=P.half
   rw[Nat.pow_succ,Nat.mul_div_cancel _ (by decide)]at this
   rw[this]
   exact aK t
  have e:=P.pw.cell 0 (by rw[fh];exact hH)
  rw[e]at h0
  injection h0 with e
  cases e
 have n4:go≠G:=by
  rintro rfl
  rw[M.c0]at h0
  injection h0 with e
  cases e
 exact⟨r,gm,go,gp,H,s1,l1,m1,P.off hb n1 n2 n3,M.but hb n4,a0,a1,a2⟩
theorem lH{w:World}{B L j gt:Nat}{S:Int}(hP:pn w B L (FM j) gt S)(hj:j<3)(N q:Nat)(hN:N=2^L)(ga gb:Option Addr)(b o cap b' o' cap' la lb:Nat)(xs ys:List Nat)(hl:xs.length=la)(hR:Rep w ga b o cap xs)(hl':ys.length=lb)(hR':Rep w gb b' o' cap' ys)(ha:1<=la)(hb:1<=lb)(hn:q+1=la+lb)(hnN:q<=N)(hL2:L<=20)(hS:S<=109951162777600):
  Calls Tryz.prog 165 #[.pointer (some ⟨gt,0,none⟩),.slice ga la cap,.slice gb lb cap'] w fun e w'=>∃ v,e=.returned (.tuple #[v,.bool true])/\lk w' (FM j) q N (cs xs ys) v/\(∃ k s l m s' l' m',Met w k 0 s l m/\Met w' k 0 s' l' m'/\Touch k 0 3 w w'/\0<=s'/\s'<=S+1099511627776/\B<=k):=by
 obtain⟨r,gm,go,gp,H,s1,l1,m1,P,M,a0,a1,a2⟩:=hP
 have hNb:=bJ P.low
 rw[<-hN]at hNb
 have hHb:H<=1048576:=by have:=P.half;rw[<-hN]at this;omega
 have hsp:=mN hHb P.low
 refine(Gk P M N q hN ga gb b o cap b' o' cap' la lb xs ys hl hR hl' hR' ha hb hn hnN a0 (by omega)).mono ?_
 rintro e w' ⟨g,rfl,hg,hB,M',T'⟩
 have hp:=P.mw.low
 have hlen:=pM (FM j) r L (dw N xs) (dw N ys)
 rw[<-hN]at hlen
 refine⟨_,rfl,⟨g,_,rfl,hB,by rw[hlen];exact hnN,hlen,fun i hi=>?_⟩,go,s1,l1,m1,_,l1,m1,M,M',T',?_,?_,a2⟩
 ·have hc:=Gw (n:=q) (xs:=xs) (ys:=ys) (by omega) P.rt (MO hj hL2) (by omega) (by omega) (by omega) (by rw[<-hN];exact hnN)
  rw[<-hN]at hc
  rw[<-take_at _ hi,hc]
  exact Kq (by omega) (by omega) hi
 ·omega
 ·omega
def Sl(v:Value):Prop:=∃ a n c,v=.slice a n c
structure rE(w:World)(k q N:Nat)(T:Nat->Nat)(v0 v1 v2:Value):Prop where
 s0:Sl v0
 r0:0<k->lk w eG q N T v0
 r1:1<k->lk w dZ q N T v1
 r2:2<k->lk w bZ q N T v2
theorem rE.touch{w w':World}{k q N g:Nat}{T:Nat->Nat}{v0 v1 v2:Value}{s l m:Int}(h:rE w k q N T v0 v1 v2)(hq:1<=q)(hM:Met w g 0 s l m)(hT:Touch g 0 3 w w'):rE w' k q N T v0 v1 v2:=
 ⟨h.s0,fun hk=>(h.r0 hk).touch hq hM hT,fun hk=>(h.r1 hk).touch hq hM hT,fun hk=>(h.r2 hk).touch hq hM hT⟩
theorem lk.sl{w:World}{p q N:Nat}{T:Nat->Nat}{v:Value}(h:lk w p q N T v):Sl v:=by
 obtain⟨g,zs,e,_⟩:=h
 exact⟨_,_,_,e⟩
theorem rE.box{w w':World}{k q N G:Nat}{T:Nat->Nat}{v0 v1 v2 v:Value}(h:rE w k q N T v0 v1 v2)(hq:1<=q)(hs:Sl v)(h0:w.cell? ⟨G,0,none⟩=some v)(hb:w.grownBy w' (some G)):rE w' k q N T v0 v1 v2:=by
 obtain⟨a,n,c,rfl⟩:=hs
 exact⟨h.s0,fun hk=>(h.r0 hk).box hq h0 hb,fun hk=>(h.r1 hk).box hq h0 hb,fun hk=>(h.r2 hk).box hq h0 hb⟩
theorem rE.start(w:World)(q N:Nat)(T:Nat->Nat):rE w 0 q N T (.slice none 0 0) (.slice none 0 0) (.slice none 0 0):=
 ⟨⟨_,_,_,rfl⟩,fun h=>absurd h (by omega),fun h=>absurd h (by omega),fun h=>absurd h (by omega)⟩
theorem rE.one{w:World}{q N:Nat}{T:Nat->Nat}{v0 v1 v2 v:Value}(_h:rE w 0 q N T v0 v1 v2)(r:lk w eG q N T v):rE w 1 q N T v v1 v2:=
 ⟨r.sl,fun _=>r,fun h=>absurd h (by omega),fun h=>absurd h (by omega)⟩
theorem rE.two{w:World}{q N:Nat}{T:Nat->Nat}{v0 v1 v2 v:Value}(h:rE w 1 q N T v0 v1 v2)(r:lk w dZ q N T v):rE w 2 q N T v0 v v2:=
 ⟨h.s0,fun _=>h.r0 (by omega),fun _=>r,fun h=>absurd h (by omega)⟩
theorem rE.three{w:World}{q N:Nat}{T:Nat->Nat}{v0 v1 v2 v:Value}(h:rE w 2 q N T v0 v1 v2)(r:lk w bZ q N T v):rE w 3 q N T v0 v1 v:=
 ⟨h.s0,fun _=>h.r0 (by omega),fun _=>h.r1 (by omega),fun _=>r⟩
theorem eZ.spent{w w':World}{B L n k:Nat}{S S' s l m s' l' m':Int}{a0 a1 a2:Option Addr}(h:eZ w B L n S a0 a1 a2)(hL:1<=L)(hM:Met w k 0 s l m)(hM':Met w' k 0 s' l' m')(hT:Touch k 0 3 w w')(h0:0<=s')(h1:s'<=S')(hS:S<=S'):eZ w' B L n S' a0 a1 a2:=by
 refine⟨fun hk=>?_,fun hk=>?_,fun hk=>?_⟩
 ·obtain⟨gt,e,P⟩:=h.1 hk;exact⟨gt,e,P.spent hL hM hM' hT h0 h1 hS⟩
 ·obtain⟨gt,e,P⟩:=h.2.1 hk;exact⟨gt,e,P.spent hL hM hM' hT h0 h1 hS⟩
 ·obtain⟨gt,e,P⟩:=h.2.2 hk;exact⟨gt,e,P.spent hL hM hM' hT h0 h1 hS⟩
theorem eZ.rows{w w':World}{B L n G:Nat}{S:Int}{a0 a1 a2:Option Addr}{v:Value}(h:eZ w B L n S a0 a1 a2)(hL:1<=L)(hs:Sl v)(h0:w.cell? ⟨G,0,none⟩=some v)(hb:w.grownBy w' (some G)):eZ w' B L n S a0 a1 a2:=by
 obtain⟨a,k,c,rfl⟩:=hs
 refine⟨fun hk=>?_,fun hk=>?_,fun hk=>?_⟩
 ·obtain⟨gt,e,P⟩:=h.1 hk;exact⟨gt,e,P.rows hL h0 hb⟩
 ·obtain⟨gt,e,P⟩:=h.2.1 hk;exact⟨gt,e,P.rows hL h0 hb⟩
 ·obtain⟨gt,e,P⟩:=h.2.2 hk;exact⟨gt,e,P.rows hL h0 hb⟩
theorem re{w:World}{q N:Nat}{T:Nat->Nat}{v0 v1 v2:Value}(h:rE w 3 q N T v0 v1 v2)(hT:∀ k,T k<eG*dZ*bZ)(hq:q<=2097152):
  Calls Tryz.prog 166 #[.agg #[v0,v1,v2]] w fun e w'=>∃ g,e=.returned (.slice (some ⟨g,0,none⟩) q q)/\w.heap.size<=g/\jz w' g q T/\Below w.heap.size w w':=by
 obtain⟨g0,z0,rfl,B0,l0,e0,c0⟩:=h.r0 (by decide)
 obtain⟨g1,z1,rfl,B1,l1,e1,c1⟩:=h.r1 (by decide)
 obtain⟨g2,z2,rfl,B2,l2,e2,c2⟩:=h.r2 (by decide)
 have R0:=B0.rep 0 q N (by omega) (by omega)
 have R1:=B1.rep 0 q N (by omega) (by omega)
 have R2:=B2.rep 0 q N (by omega) (by omega)
 rw[List.drop_zero]at R0 R1 R2
 refine xu T hq R0 R1 R2 (by simp;omega) (by simp;omega) (by simp;omega) fun k hk=>?_
 rw[take_at _ hk,take_at _ hk,take_at _ hk,c0 k hk,c1 k hk,c2 k hk]
 exact⟨(Nat.mod_mod _ _).symm,(Nat.mod_mod _ _).symm,(Nat.mod_mod _ _).symm,hT k⟩
theorem II(a0 a1 a2:Option Addr)(w:World):(Instr.index 202 (.agg #[.pointer a0,.pointer a1,.pointer a2]) (.int .i64 0)).run Tryz.prog w=.ok (.pointer a0) w:=by kernel_rfl
theorem IJ(a0 a1 a2:Option Addr)(w:World):(Instr.index 202 (.agg #[.pointer a0,.pointer a1,.pointer a2]) (.int .i64 1)).run Tryz.prog w=.ok (.pointer a1) w:=by kernel_rfl
theorem IK(a0 a1 a2:Option Addr)(w:World):(Instr.index 202 (.agg #[.pointer a0,.pointer a1,.pointer a2]) (.int .i64 2)).run Tryz.prog w=.ok (.pointer a2) w:=by kernel_rfl
theorem PI(n m ways:Nat)(h1:1<=n)(h2:n<=16384)(h3:1<=m)(h4:m<=16384)(h5:ways<=3):tf n m ways<=1073741824:=by
 have h:=(sg (n+m) (by omega) (by omega)).2.2
 exact Nat.le_trans (Jl h h5) (by decide)
set_option maxRecDepth 100000 in
set_option maxHeartbeats 6400000 in
theorem FG(w:World)(go oo:Nat)(s l m:Int)(ga gb:Option Addr)(b o cap la b' o' cap' lb q:Nat)(xs ys:List Nat)(hT:TB w)(hM:Met w go oo s l m)(hs0:0<=s)(hs:s<=2305843009213693952)(hl:xs.length=la)(hR:Rep w ga b o cap xs)(dx:ao xs)(hl':ys.length=lb)(hR':Rep w gb b' o' cap' ys)(dy:ao ys)(ha:1<=la)(ha2:la<=16384)(hb:1<=lb)(hb2:lb<=16384)(hq:q+1=la+lb):
  Calls Tryz.prog 142 #[.pointer (some ⟨go,oo,none⟩),.slice ga la cap,.slice gb lb cap'] w fun e w'=>∃ g,e=.returned (.tuple #[.slice (some ⟨g,0,none⟩) q q,.bool true])/\w.heap.size<=g/\jz w' g q (cs xs ys)/\Met w' go oo (s+(tf la lb 3:Int)) l m/\Touch go oo 3 w w':=by
 obtain⟨n,hn⟩:∃ n,n=la+lb:=⟨_,rfl⟩
 obtain⟨L,hL⟩:∃ L,L=Lib.bitLen (n-1):=⟨_,rfl⟩
 obtain⟨L1,L2,_,L4⟩:=iG 15 (n-1) (by omega) (by omega) (by omega)
 rw[<-hL]at L1 L2 L4
 obtain⟨N,hN⟩:∃ N,N=2^L:=⟨_,rfl⟩
 rw[<-hN]at L4
 have hqN:q<=N:=by omega
 have CF:=hide (fun w=>KH la lb w ha hb (by omega))
 have CT:=hide (fun w=>OO la lb 3 w ha ha2 hb hb2 (by decide))
 have htf:=PI la lb 3 ha ha2 hb hb2 (by decide)
 have CS:=hide (fi (tf la lb 3:Int) (s+(tf la lb 3:Int)) hM (by omega) (by omega) (by omega))
 have CP:=hide (fun w hT=>Ef w n L (by omega) (by omega) hL (by omega) hT)
 have HT:=hide (fun w' (t:Touch go oo 3 w w')=>(hT.touch hM t))
 have HR:=hide (fun w' (t:Touch go oo 3 w w')=>(hR.touch hM t))
 have HR':=hide (fun w' (t:Touch go oo 3 w w')=>(hR'.touch hM t))
 have e1:(la:Int)+(lb:Int)=(n:Int):=by omega
 have e2:IntKind.i64.wrap (n:Int)=(n:Int):=by rw[IntKind.wrap_i64];omega
 generalize tf la lb 3=C at *
 have HN:=hide hN
 have HTL:Hid (∀ k,cs xs ys k<eG*dZ*bZ):=fun k=>O7 dx dy (by omega) k
 have HL1:=hide L1
 have hq1:1<=q:=by omega
 have hb0:=hb
 have hq0:=hq
 clear hM hT hR hR' hN hL hn htf
 go_enter Tryz.func142,Tryz.ntmps142
 go_wp2_with fail
 refine(ae CF _).mono ?_
 rintro e w1 ⟨rfl,hw⟩
 obtain rfl:=hw.symm
 clear hw CF
 go_wp2_with fail
 refine(ae CT _).mono ?_
 rintro e w1 ⟨rfl,hw⟩
 obtain rfl:=hw.symm
 clear hw CT
 go_wp2_with fail
 refine(ae CS).mono ?_
 rintro e w1 ⟨rfl,M1,T1⟩
 have hT1:=ae HT _ T1
 have R1:=ae HR _ T1
 have R1':=ae HR' _ T1
 have b2:Below w1.heap.size w1 (w1.alloc (.cells #[.slice none 0 0,.slice none 0 0,.slice none 0 0] 200)):=(Below.refl _ _).alloc (Nat.le_refl _) _
 have V2:fM (w1.alloc (.cells #[.slice none 0 0,.slice none 0 0,.slice none 0 0] 200)) w1.heap.size [.slice none 0 0,.slice none 0 0,.slice none 0 0] 200:=heap_alloc_new w1 _
 obtain⟨W2,hW2⟩:∃ W2,w1.alloc (.cells #[.slice none 0 0,.slice none 0 0,.slice none 0 0] 200)=W2:=⟨_,rfl⟩
 rw[hW2]at b2 V2
 obtain⟨X,hX⟩:∃ X,w1.heap.size=X:=⟨_,rfl⟩
 rw[hX]at V2
 have CP:=hide (ae CP W2 (hT1.next b2))
 have WX:Hid (w1.heap.size<=X):=Nat.le_of_eq hX
 have HB2:=hide b2
 have HV2:=hide V2
 have HM1:=hide M1
 have HT1:=hide T1
 have HR1:=hide R1
 have HR1':=hide R1'
 clear CS HT HR HR' M1 T1 hT1 R1 R1' b2 V2
 go_wp2_with fail
 refine(ae CP).mono ?_
 rintro e w3 ⟨a0,a1,a2,rfl,hP,b3⟩
 have B3:=hide (ag (ae HB2) b3)
 have V3:=hide ((ae HV2).next b3)
 have hsz2:Hid (w1.heap.size<=W2.heap.size):=(ae HB2).size
 have HP3:=hide hP
 clear CP HB2 HV2 hW2 hX hP b3
 go_wp2
 go_loopw [30] (fun iv wr=>∃(k:Nat) (v0 v1 v2:Value),k<=3/\iv=.int .i64 (k:Int)/\fM wr X [v0,v1,v2] 200/\rE wr k q N (cs xs ys) v0 v1 v2/\eZ wr W2.heap.size L 3 ((k:Int)*1099511627776) a0 a1 a2/\Below w1.heap.size w1 wr) (fun iv _=>3-(intOf iv).toNat)
 case atStart=>exact⟨0,_,_,_,by decide,rfl,ae V3,rE.start _ _ _ _,ae HP3,ae B3⟩
 case round=>
  clear V3 HP3 B3
  obtain⟨k,v0,v1,v2,hk,rfl,hV,hW,hP,hb⟩:=hrel
  have hk4:k=0\/k=1\/k=2\/k=3:=by omega
  clear hk
  rcases hk4 with rfl|rfl|rfl|rfl
  ·obtain⟨gt,ha,P⟩:=hP.1 (by decide)
   subst ha
   have hix:=II
   have c0:wr.cell? ⟨X,0,none⟩=some v0:=hV.cell 0 (by simp)
   have CC:=hide (lH (j:=0) P (by decide) N q (ae HN) ga gb b o cap b' o' cap' la lb xs ys hl ((ae HR1).next hb) hl' ((ae HR1').next hb) ha hb0 hq0 hqN (by omega) (by decide))
   have HV:=hide hV
   have HW:=hide hW
   have HP:=hide hP
   have HB:=hide hb
   clear P hV hW hP hb c0
   go_wp2_with fail
   refine(ae CC).mono ?_
   rintro e w5 ⟨v,rfl,hr,kk,s1,l1,m1,s2,l2,m2,hM,hM',hTT,p0,p1,pk⟩
   have sl:=hr.sl
   have V5:fM w5 X [v0,v1,v2] 200:=(ae HV).but hTT.grown (by
    rintro rfl
    have c:=(ae HV).cell 0 (by simp)
    rw[hM.c0]at c
    obtain⟨_,_,_,e⟩:=(ae HW).s0
    subst e
    injection c with c
    cases c)
   have q0:w5.cell? ⟨X,0,none⟩=some v0:=V5.cell 0 (by simp)
   have cv:w5.cell? ⟨X,0,none⟩=some v0:=V5.cell 0 (by simp)
   have fv:=V5.frozen 0
   have B5:=(ae HB).grown hTT.grown (ae HB).size (fun k hk=>by cases hk;exact Nat.le_trans (ae hsz2) pk)
   have W5:=((ae HW).touch hq1 hM hTT).one hr
   have P5:=(ae HP).spent (ae HL1) hM hM' hTT p0 p1 (by decide)
   have V7:Hid (fM (w5.setCell ⟨X,0,none⟩ v) X (([v0,v1,v2]:List Value).set 0 v) 200):=V5.set 0 v
   have B7:=hide (B5.setCell (p:=⟨X,0,none⟩) (ae WX) v)
   have W7:=hide (W5.box hq1 (ae HW).s0 q0 (aj w5 X 0 v))
   have P7:=hide (P5.rows (ae HL1) (ae HW).s0 q0 (aj w5 X 0 v))
   clear hr hM hM' hTT p0 p1 pk V5 q0 B5 W5 P5 CC HV HW HP HB
   obtain⟨sa,sn,sc,rfl⟩:=sl
   go_wp2
   go_roundw
   case rel=>exact⟨1,_,_,_,by decide,rfl,ae V7,ae W7,ae P7,ae B7⟩
   case measure=>simp[intOf]
  ·obtain⟨gt,ha,P⟩:=hP.2.1 (by decide)
   subst ha
   have hix:=IJ
   have c0:wr.cell? ⟨X,0,none⟩=some v0:=hV.cell 0 (by simp)
   have CC:=hide (lH (j:=1) P (by decide) N q (ae HN) ga gb b o cap b' o' cap' la lb xs ys hl ((ae HR1).next hb) hl' ((ae HR1').next hb) ha hb0 hq0 hqN (by omega) (by decide))
   have HV:=hide hV
   have HW:=hide hW
   have HP:=hide hP
   have HB:=hide hb
   clear P hV hW hP hb c0
   go_wp2_with fail
   refine(ae CC).mono ?_
   rintro e w5 ⟨v,rfl,hr,kk,s1,l1,m1,s2,l2,m2,hM,hM',hTT,p0,p1,pk⟩
   have sl:=hr.sl
   have V5:fM w5 X [v0,v1,v2] 200:=(ae HV).but hTT.grown (by
    rintro rfl
    have c:=(ae HV).cell 0 (by simp)
    rw[hM.c0]at c
    obtain⟨_,_,_,e⟩:=(ae HW).s0
    subst e
    injection c with c
    cases c)
   have q0:w5.cell? ⟨X,0,none⟩=some v0:=V5.cell 0 (by simp)
   have cv:w5.cell? ⟨X,1,none⟩=some v1:=V5.cell 1 (by simp)
   have fv:=V5.frozen 1
   have B5:=(ae HB).grown hTT.grown (ae HB).size (fun k hk=>by cases hk;exact Nat.le_trans (ae hsz2) pk)
   have W5:=((ae HW).touch hq1 hM hTT).two hr
   have P5:=(ae HP).spent (ae HL1) hM hM' hTT p0 p1 (by decide)
   have V7:Hid (fM (w5.setCell ⟨X,1,none⟩ v) X (([v0,v1,v2]:List Value).set 1 v) 200):=V5.set 1 v
   have B7:=hide (B5.setCell (p:=⟨X,1,none⟩) (ae WX) v)
   have W7:=hide (W5.box hq1 (ae HW).s0 q0 (aj w5 X 1 v))
   have P7:=hide (P5.rows (ae HL1) (ae HW).s0 q0 (aj w5 X 1 v))
   clear hr hM hM' hTT p0 p1 pk V5 q0 B5 W5 P5 CC HV HW HP HB
   obtain⟨sa,sn,sc,rfl⟩:=sl
   go_wp2
   go_roundw
   case rel=>exact⟨2,_,_,_,by decide,rfl,ae V7,ae W7,ae P7,ae B7⟩
   case measure=>simp[intOf]
  ·obtain⟨gt,ha,P⟩:=hP.2.2 (by decide)
   subst ha
   have hix:=IK
   have c0:wr.cell? ⟨X,0,none⟩=some v0:=hV.cell 0 (by simp)
   have CC:=hide (lH (j:=2) P (by decide) N q (ae HN) ga gb b o cap b' o' cap' la lb xs ys hl ((ae HR1).next hb) hl' ((ae HR1').next hb) ha hb0 hq0 hqN (by omega) (by decide))
   have HV:=hide hV
   have HW:=hide hW
   have HP:=hide hP
   have HB:=hide hb
   clear P hV hW hP hb c0
   go_wp2_with fail
   refine(ae CC).mono ?_
   rintro e w5 ⟨v,rfl,hr,kk,s1,l1,m1,s2,l2,m2,hM,hM',hTT,p0,p1,pk⟩
   have sl:=hr.sl
   have V5:fM w5 X [v0,v1,v2] 200:=(ae HV).but hTT.grown (by
    rintro rfl
    have c:=(ae HV).cell 0 (by simp)
    rw[hM.c0]at c
    obtain⟨_,_,_,e⟩:=(ae HW).s0
    subst e
    injection c with c
    cases c)
   have q0:w5.cell? ⟨X,0,none⟩=some v0:=V5.cell 0 (by simp)
   have cv:w5.cell? ⟨X,2,none⟩=some v2:=V5.cell 2 (by simp)
   have fv:=V5.frozen 2
   have B5:=(ae HB).grown hTT.grown (ae HB).size (fun k hk=>by cases hk;exact Nat.le_trans (ae hsz2) pk)
   have W5:=((ae HW).touch hq1 hM hTT).three hr
   have P5:=(ae HP).spent (ae HL1) hM hM' hTT p0 p1 (by decide)
   have V7:Hid (fM (w5.setCell ⟨X,2,none⟩ v) X (([v0,v1,v2]:List Value).set 2 v) 200):=V5.set 2 v
   have B7:=hide (B5.setCell (p:=⟨X,2,none⟩) (ae WX) v)
   have W7:=hide (W5.box hq1 (ae HW).s0 q0 (aj w5 X 2 v))
   have P7:=hide (P5.rows (ae HL1) (ae HW).s0 q0 (aj w5 X 2 v))
   clear hr hM hM' hTT p0 p1 pk V5 q0 B5 W5 P5 CC HV HW HP HB
   obtain⟨sa,sn,sc,rfl⟩:=sl
   go_wp2
   go_roundw
   case rel=>exact⟨3,_,_,_,by decide,rfl,ae V7,ae W7,ae P7,ae B7⟩
   case measure=>simp[intOf]
  ·have CN:=hide (re hW (ae HTL) (by omega))
   have g0:wr.cell? ⟨X,0,none⟩=some v0:=hV.cell 0 (by simp)
   have g1:wr.cell? ⟨X,1,none⟩=some v1:=hV.cell 1 (by simp)
   have g2:wr.cell? ⟨X,2,none⟩=some v2:=hV.cell 2 (by simp)
   obtain⟨t0,n0,d0,rfl⟩:=(hW.r0 (by decide)).sl
   obtain⟨t1,n1,d1,rfl⟩:=(hW.r1 (by decide)).sl
   obtain⟨t2,n2,d2,rfl⟩:=(hW.r2 (by decide)).sl
   have HB:=hide hb
   clear hV hW hP hb
   go_wp2_with fail
   refine(ae CN).mono ?_
   rintro e w5 ⟨g,rfl,hg,hTri,b5⟩
   have b6:=ag (ae HB) b5
   have M6:=(ae HM1).next b6
   have T6:=(ae HT1).then b6 (ae HM1).lt
   have hgw:Hid (w.heap.size<=g):=by
    have h1:=(ae HT1).grown.size
    have h2:=(ae HB).size
    show _<=_
    omega
   clear CN g0 g1 g2 hg b5 b6
   go_wp2
   go_ret2
   exact⟨g,rfl,ae hgw,hTri,M6,T6⟩
end Go.Proofs.YtpdpnomocbehkaaGreatDoor
/- Package conv:Words as the statements ask it,and Mul. -/
namespace Go.Proofs.YtpdpnomocbehkaaGreatDoor
open Go.RowKit
set_option maxRecDepth 100000 in
set_option maxHeartbeats 1600000 in
theorem vO(w:World)(go oo:Nat)(s l m:Int)(ga gb:Option Addr)(b o cap la b' o' cap' lb:Nat)(xs ys:List Nat)(hT:TB w)(hM:Met w go oo s l m)(hs0:0<=s)(hs:s<=2305843009213693952)(hl:xs.length=la)(hR:Rep w ga b o cap xs)(dx:ao xs)(hl':ys.length=lb)(hR':Rep w gb b' o' cap' ys)(dy:ao ys)(ha:1<=la)(ha2:la<=16384)(hb:1<=lb)(hb2:lb<=16384):
  Calls Tryz.prog 123 #[.pointer (some ⟨go,oo,none⟩),.slice ga la cap,.slice gb lb cap'] w fun e w'=>∃ v,e=.returned (.tuple #[v,.bool true])/\ah w.heap.size w' v (af xs*af ys)/\Met w' go oo (s+(tf la lb 3:Int)) l m/\Touch go oo 3 w w':=by
 obtain⟨q,hq⟩:∃ q,q+1=la+lb:=⟨la+lb-1,by omega⟩
 have CW:=hide (FG w go oo s l m ga gb b o cap la b' o' cap' lb q xs ys hT hM hs0 hs hl hR dx hl' hR' dy ha ha2 hb hb2 hq)
 have HE:=hide (Gn (xs:=xs) (ys:=ys) (n:=q) (by omega))
 have CC:=hide (fun w g (h:jz w g q (cs xs ys))=>B6 w (some ⟨g,0,none⟩) g q q (cs xs ys) (by omega) (fun _=>rfl) (by omega) (Nat.le_refl _) h)
 rw[ae HE]at CC
 have HG:=hide hM.lt
 clear hT hM hR hR' HE hl hl' ha hb ha2 hb2 hq dx dy
 generalize af xs*af ys=V at *
 generalize cs xs ys=T at *
 generalize tf la lb 3=C at *
 go_enter Tryz.func123,Tryz.ntmps123
 go_wp2_with fail
 refine(ae CW).mono ?_
 rintro e w1 ⟨g,rfl,hg,hTri,M1,T1⟩
 have CC:=hide (ae CC _ _ hTri)
 have HM:=hide M1
 have HT:=hide T1
 clear CW hTri hg M1 T1
 go_wp2_with fail
 refine(ae CC).mono ?_
 rintro e w2 ⟨r,rfl,nr,b2⟩
 have M2:=(ae HM).next b2
 have T2:=(ae HT).then b2 (ae HM).lt
 have nr:=nr.mono (ae HT).grown.size
 clear CC b2
 go_wp2
 go_ret2
 exact⟨r,rfl,nr,M2,T2⟩
end Go.Proofs.YtpdpnomocbehkaaGreatDoor
/- Package conv:a square by one transform less. -/
namespace Go.Proofs.YtpdpnomocbehkaaGreatDoor
open Go.RowKit
end Go.Proofs.YtpdpnomocbehkaaGreatDoor
/- Package conv:Sqr. -/
namespace Go.Proofs.YtpdpnomocbehkaaGreatDoor
open Go.RowKit
end Go.Proofs.YtpdpnomocbehkaaGreatDoor
