/- What the statements on package mul ask of its calls: as propositions, for whatever code. -/
import Derived.Test.YtgcnhfgpflncaaaGreatDoorB36
import Derived.Test.YtgcnhfgpflncaaaGreatDoorB17
import Derived.Test.YtgcnhfgpflncaaaGreatDoorB30
import Derived.Test.YtgcnhfgpflncaaaGreatDoorB33
import Derived.Test.YtgcnhfgpflncaaaGreatDoorB1
import Derived.Test.YtgcnhfgpflncaaaGreatDoorB35
import Derived.Test.YtgcnhfgpflncaaaGreatDoorB22
import Derived.Test.YtgcnhfgpflncaaaGreatDoorB7
import Derived.Test.YtgcnhfgpflncaaaGreatDoorB9
import Derived.Test.YtgcnhfgpflncaaaGreatDoorB14
import Derived.Test.YtgcnhfgpflncaaaGreatDoorB3
import Derived.Test.YtgcnhfgpflncaaaGreatDoorB5
import Derived.Test.YtgcnhfgpflncaaaGreatDoorB15
namespace Go.Proofs.YtgcnhfgpflncaaaGreatDoor
open Go.RowKit
theorem aC.tb{w w':World}{gm gt gk ge g:Nat}{s l m:Int}{T:Tab}(h:aC w gm gt gk ge g s l m T)(o:Out (·=g) w w')(t:TB w):TB w':=
 ⟨fun j hj=>h.cell o (t.b j hj) rfl (fun x e=>by cases e),fun j hj=>h.cell o (t.d j hj) rfl (fun x e=>by cases e)⟩
def uL:Prop:=∀(w:World) (gm gt gk ge g:Nat) (s l m:Int) (T:Tab) (u v:Value) (A C:Nat),
 aC w gm gt gk ge g s l m T->TB w->0<=s->s<=1152921504606846976->0<=l->l<=1000->bh w u A->bh w v C->
 Calls Tryz.prog 65 #[.pointer (some ⟨gm,0,none⟩),u,v] w fun e w'=>∃ r m',e=.returned r/\ah w.heap.size w' r (A*C)/\aC w' gm gt gk ge g (s+hU T (wl A:Int) (wl C:Int)) l m' T/\m<=m'/\m'<=max m (l+(cZ (max (wl A) (wl C)):Int))/\Out (·=g) w w'
def uM:Prop:=∀(w:World) (gm gt gk ge g:Nat) (s l m:Int) (T:Tab) (u:Value) (A:Nat),
 aC w gm gt gk ge g s l m T->TB w->0<=s->s<=1152921504606846976->0<=l->l<=1000->bh w u A->
 Calls Tryz.prog 58 #[.pointer (some ⟨gm,0,none⟩),u] w fun e w'=>∃ r m',e=.returned r/\ah w.heap.size w' r (A*A)/\aC w' gm gt gk ge g (s+OR T (wl A:Int)) l m' T/\m<=m'/\m'<=max m (l+(cZ (wl A):Int))/\Out (·=g) w w'
def PH(r:Int)(n m:Nat):Bool:=if r=1\/r=2\/r=5 then decide (0<m) else if r=3 then decide (0<m/\(n+1)/2<m) else if r=4 then decide (0<m/\2*((n+2)/3)<m) else false
end Go.Proofs.YtgcnhfgpflncaaaGreatDoor
/- What the statements on package recip ask of its calls:as propositions,for whatever code. -/
namespace Go.Proofs.YtgcnhfgpflncaaaGreatDoor
open Go.RowKit
structure aA(w:World)(gr gd gm gt gk ge g:Nat)(s l m:Int)(T:Tab):Prop where
 ptr:w.cell? ⟨gr,0,none⟩=some (.pointer (some ⟨gd,0,none⟩))
 div:dO w gd gm gt gk ge g s l m T
 nm:gr≠g
theorem aA.lt{w:World}{gr gd gm gt gk ge g:Nat}{s l m:Int}{T:Tab}(h:aA w gr gd gm gt gk ge g s l m T):gr<w.heap.size:=World.block_lt_of_cell? _ _ h.ptr
theorem aA.met{w:World}{gr gd gm gt gk ge g:Nat}{s l m:Int}{T:Tab}(h:aA w gr gd gm gt gk ge g s l m T):Met w g 0 s l m:=h.div.met
theorem aA.next{w w':World}{gr gd gm gt gk ge g:Nat}{s l m:Int}{T:Tab}(h:aA w gr gd gm gt gk ge g s l m T)(b:Below w.heap.size w w'):aA w' gr gd gm gt gk ge g s l m T:=
 ⟨(b.cell (p:=⟨gr,0,none⟩) h.lt).trans h.ptr,h.div.next b,h.nm⟩
theorem aA.step{w w':World}{gr gd gm gt gk ge g:Nat}{s l m s' l' m':Int}{T:Tab}(h:aA w gr gd gm gt gk ge g s l m T)(M:Met w' g 0 s' l' m')(t:Touch g 0 3 w w'):aA w' gr gd gm gt gk ge g s' l' m' T:=
 ⟨t.grown.cell h.ptr (by simpa using h.nm),h.div.step M t,h.nm⟩
theorem aA.kept{w w':World}{gr gd gm gt gk ge g:Nat}{s l m s' l' m':Int}{T:Tab}(h:aA w gr gd gm gt gk ge g s l m T)(o:Out (·=g) w w')(K:dO w' gd gm gt gk ge g s' l' m' T):aA w' gr gd gm gt gk ge g s' l' m' T:=
 ⟨o.cell h.ptr h.nm,K,h.nm⟩
theorem aA.out{D:Nat->Prop}{w w':World}{gr gd gm gt gk ge g:Nat}{s l m:Int}{T:Tab}(h:aA w gr gd gm gt gk ge g s l m T)(o:Out D w w')(h6:¬D gr)(h5:¬D gd)(h4:¬D gm)(h3:¬D gt)(h0:¬D gk)(h1:¬D ge)(h2:¬D g):aA w' gr gd gm gt gk ge g s l m T:=
 ⟨o.cell h.ptr h6,h.div.out o h5 h4 h3 h0 h1 h2,h.nm⟩
theorem aA.rep{w w':World}{gr gd gm gt gk ge g:Nat}{s l m:Int}{T:Tab}(h:aA w gr gd gm gt gk ge g s l m T)(o:Out (·=g) w w'){ga:Option Addr}{b oo cap:Nat}{xs:List Nat}(r:Rep w ga b oo cap xs):Rep w' ga b oo cap xs:=h.div.rep o r
theorem aA.isN{w w':World}{gr gd gm gt gk ge g:Nat}{s l m:Int}{T:Tab}(h:aA w gr gd gm gt gk ge g s l m T)(o:Out (·=g) w w'){v:Value}{n:Nat}(r:aY w v n):aY w' v n:=h.div.isN o r
theorem aA.inM{w w':World}{gr gd gm gt gk ge g:Nat}{s l m:Int}{T:Tab}(h:aA w gr gd gm gt gk ge g s l m T)(o:Out (·=g) w w'){v:Value}{n:Nat}(r:bh w v n):bh w' v n:=h.div.inM o r
theorem aA.other{w w':World}{gr gd gm gt gk ge g:Nat}{s l m:Int}{T:Tab}{gr' gd' gm' gt' gk' ge' g':Nat}{s' l' m':Int}{T':Tab}(h:aA w gr gd gm gt gk ge g s l m T)(o:Out (·=g) w w')(k:aA w gr' gd' gm' gt' gk' ge' g' s' l' m' T')(hg:g'≠g):aA w' gr' gd' gm' gt' gk' ge' g' s' l' m' T':=
 ⟨h.div.mul.cell o k.ptr rfl (fun z e=>by cases e),⟨h.div.mul.cell o k.div.ptr rfl (fun z e=>by cases e),h.div.mul.other o k.div.mul hg,k.div.nm⟩,k.nm⟩
def FH:Prop:=∀(T:Tab) (w:World),Calls Tryz.prog 49 #[T.val] w fun e w'=>∃ gr gd gm gt gk ge g,e=.returned (.pointer (some ⟨gr,0,none⟩))/\aA w' gr gd gm gt gk ge g 0 0 0 T/\(w.heap.size<=gr/\w.heap.size<=gd/\w.heap.size<=gm/\w.heap.size<=gt/\w.heap.size<=gk/\w.heap.size<=ge/\w.heap.size<=g)/\Below w.heap.size w w'
end Go.Proofs.YtgcnhfgpflncaaaGreatDoor
/- What the statements on package div ask of its calls:as propositions,for whatever code. -/
namespace Go.Proofs.YtgcnhfgpflncaaaGreatDoor
open Go.RowKit
structure aN(w:World)(gv gr gd gm gt gk ge g:Nat)(s l m:Int)(T:Tab):Prop where
 ptr:w.cell? ⟨gv,0,none⟩=some (.pointer (some ⟨gr,0,none⟩))
 rcp:aA w gr gd gm gt gk ge g s l m T
 nm:gv≠g
theorem aN.lt{w:World}{gv gr gd gm gt gk ge g:Nat}{s l m:Int}{T:Tab}(h:aN w gv gr gd gm gt gk ge g s l m T):gv<w.heap.size:=World.block_lt_of_cell? _ _ h.ptr
theorem aN.met{w:World}{gv gr gd gm gt gk ge g:Nat}{s l m:Int}{T:Tab}(h:aN w gv gr gd gm gt gk ge g s l m T):Met w g 0 s l m:=h.rcp.met
theorem aN.next{w w':World}{gv gr gd gm gt gk ge g:Nat}{s l m:Int}{T:Tab}(h:aN w gv gr gd gm gt gk ge g s l m T)(b:Below w.heap.size w w'):aN w' gv gr gd gm gt gk ge g s l m T:=
 ⟨(b.cell (p:=⟨gv,0,none⟩) h.lt).trans h.ptr,h.rcp.next b,h.nm⟩
theorem aN.kept{w w':World}{gv gr gd gm gt gk ge g:Nat}{s l m s' l' m':Int}{T:Tab}(h:aN w gv gr gd gm gt gk ge g s l m T)(o:Out (·=g) w w')(K:aA w' gr gd gm gt gk ge g s' l' m' T):aN w' gv gr gd gm gt gk ge g s' l' m' T:=
 ⟨o.cell h.ptr h.nm,K,h.nm⟩
theorem aN.rep{w w':World}{gv gr gd gm gt gk ge g:Nat}{s l m:Int}{T:Tab}(h:aN w gv gr gd gm gt gk ge g s l m T)(o:Out (·=g) w w'){ga:Option Addr}{b oo cap:Nat}{xs:List Nat}(r:Rep w ga b oo cap xs):Rep w' ga b oo cap xs:=h.rcp.rep o r
theorem aN.isN{w w':World}{gv gr gd gm gt gk ge g:Nat}{s l m:Int}{T:Tab}(h:aN w gv gr gd gm gt gk ge g s l m T)(o:Out (·=g) w w'){v:Value}{n:Nat}(r:aY w v n):aY w' v n:=h.rcp.isN o r
theorem aN.inM{w w':World}{gv gr gd gm gt gk ge g:Nat}{s l m:Int}{T:Tab}(h:aN w gv gr gd gm gt gk ge g s l m T)(o:Out (·=g) w w'){v:Value}{n:Nat}(r:bh w v n):bh w' v n:=h.rcp.inM o r
theorem aN.other{w w':World}{gv gr gd gm gt gk ge g:Nat}{s l m:Int}{T:Tab}{gv' gr' gd' gm' gt' gk' ge' g':Nat}{s' l' m':Int}{T':Tab}(h:aN w gv gr gd gm gt gk ge g s l m T)(o:Out (·=g) w w')(k:aN w gv' gr' gd' gm' gt' gk' ge' g' s' l' m' T')(hg:g'≠g):aN w' gv' gr' gd' gm' gt' gk' ge' g' s' l' m' T':=
 ⟨h.rcp.div.mul.cell o k.ptr rfl (fun z e=>by cases e),h.rcp.other o k.rcp hg,k.nm⟩
def FA:Prop:=∀(T:Tab) (w:World),Calls Tryz.prog 31 #[T.val] w fun e w'=>∃ gv gr gd gm gt gk ge g,e=.returned (.pointer (some ⟨gv,0,none⟩))/\aN w' gv gr gd gm gt gk ge g 0 0 0 T/\(w.heap.size<=gv/\w.heap.size<=gr/\w.heap.size<=gd/\w.heap.size<=gm/\w.heap.size<=gt/\w.heap.size<=gk/\w.heap.size<=ge/\w.heap.size<=g)/\Below w.heap.size w w'
def PX(w:World)(gv gr gd gm gt gk ge g:Nat)(s l:Int)(T:Tab)(e:Ending)(w':World):Prop:=
 ∃ qa qc ra rc s' m',e=.returned (.tuple #[.slice qa 0 qc,.slice ra 0 rc,.int .i64 2])/\aN w' gv gr gd gm gt gk ge g s' l m' T/\(0<=s'/\s'<=s+9007199254740992)/\Out (·=g) w w'
end Go.Proofs.YtgcnhfgpflncaaaGreatDoor
/- What the statements on package root ask of its calls:as propositions,for whatever code. -/
namespace Go.Proofs.YtgcnhfgpflncaaaGreatDoor
open Go.RowKit
structure aM(w:World)(gw gv gr gd gm gt gk ge g:Nat)(s l m:Int)(T:Tab):Prop where
 ptr:w.cell? ⟨gw,0,none⟩=some (.pointer (some ⟨gv,0,none⟩))
 div:aN w gv gr gd gm gt gk ge g s l m T
 nm:gw≠g
theorem aM.lt{w:World}{gw gv gr gd gm gt gk ge g:Nat}{s l m:Int}{T:Tab}(h:aM w gw gv gr gd gm gt gk ge g s l m T):gw<w.heap.size:=World.block_lt_of_cell? _ _ h.ptr
theorem aM.met{w:World}{gw gv gr gd gm gt gk ge g:Nat}{s l m:Int}{T:Tab}(h:aM w gw gv gr gd gm gt gk ge g s l m T):Met w g 0 s l m:=h.div.met
theorem aM.next{w w':World}{gw gv gr gd gm gt gk ge g:Nat}{s l m:Int}{T:Tab}(h:aM w gw gv gr gd gm gt gk ge g s l m T)(b:Below w.heap.size w w'):aM w' gw gv gr gd gm gt gk ge g s l m T:=
 ⟨(b.cell (p:=⟨gw,0,none⟩) h.lt).trans h.ptr,h.div.next b,h.nm⟩
theorem aM.kept{w w':World}{gw gv gr gd gm gt gk ge g:Nat}{s l m s' l' m':Int}{T:Tab}(h:aM w gw gv gr gd gm gt gk ge g s l m T)(o:Out (·=g) w w')(K:aN w' gv gr gd gm gt gk ge g s' l' m' T):aM w' gw gv gr gd gm gt gk ge g s' l' m' T:=
 ⟨o.cell h.ptr h.nm,K,h.nm⟩
theorem aM.rep{w w':World}{gw gv gr gd gm gt gk ge g:Nat}{s l m:Int}{T:Tab}(h:aM w gw gv gr gd gm gt gk ge g s l m T)(o:Out (·=g) w w'){ga:Option Addr}{b oo cap:Nat}{xs:List Nat}(r:Rep w ga b oo cap xs):Rep w' ga b oo cap xs:=h.div.rep o r
theorem aM.isN{w w':World}{gw gv gr gd gm gt gk ge g:Nat}{s l m:Int}{T:Tab}(h:aM w gw gv gr gd gm gt gk ge g s l m T)(o:Out (·=g) w w'){v:Value}{n:Nat}(r:aY w v n):aY w' v n:=h.div.isN o r
theorem aM.inM{w w':World}{gw gv gr gd gm gt gk ge g:Nat}{s l m:Int}{T:Tab}(h:aM w gw gv gr gd gm gt gk ge g s l m T)(o:Out (·=g) w w'){v:Value}{n:Nat}(r:bh w v n):bh w' v n:=h.div.inM o r
theorem aM.other{w w':World}{gw gv gr gd gm gt gk ge g:Nat}{s l m:Int}{T:Tab}{gw' gv' gr' gd' gm' gt' gk' ge' g':Nat}{s' l' m':Int}{T':Tab}(h:aM w gw gv gr gd gm gt gk ge g s l m T)(o:Out (·=g) w w')(k:aM w gw' gv' gr' gd' gm' gt' gk' ge' g' s' l' m' T')(hg:g'≠g):aM w' gw' gv' gr' gd' gm' gt' gk' ge' g' s' l' m' T':=
 ⟨h.div.rcp.div.mul.cell o k.ptr rfl (fun z e=>by cases e),h.div.other o k.div hg,k.nm⟩
def fS:Prop:=∀(T:Tab) (w:World),Calls Tryz.prog 9 #[T.val] w fun e w'=>∃ gw gv gr gd gm gt gk ge g,e=.returned (.pointer (some ⟨gw,0,none⟩))/\aM w' gw gv gr gd gm gt gk ge g 0 0 0 T/\(w.heap.size<=gw/\w.heap.size<=gv/\w.heap.size<=gr/\w.heap.size<=gd/\w.heap.size<=gm/\w.heap.size<=gt/\w.heap.size<=gk/\w.heap.size<=ge/\w.heap.size<=g)/\Below w.heap.size w w'
def fU:Prop:=∀(w:World) (gw gv gr gd gm gt gk ge g:Nat) (s l m:Int) (T:Tab) (u:Value) (A S:Nat),
 aM w gw gv gr gd gm gt gk ge g s l m T->TB w->0<=s->s<=288230376151711744->0<=l->l<=800->bh w u A->bU 2 A S->wl A<=100->
 Calls Tryz.prog 11 #[.pointer (some ⟨gw,0,none⟩),u] w fun e w'=>∃ q r gq gx s' m',e=.returned (.tuple #[q,r])/\aS gq (gq+1) w' q S/\aS gx (gx+1) w' r (A-S*S)/\(gq≠gx/\w.heap.size<=gq/\w.heap.size<=gx)/\aM w' gw gv gr gd gm gt gk ge g s' l m' T/\(0<=s'/\s'<=s+144115188075855872)/\Out (·=g) w w'
def lH:Prop:=∀(w:World) (gw gv gr gd gm gt gk ge g:Nat) (s l m:Int) (T:Tab) (u:Value) (A S k:Nat),
 aM w gw gv gr gd gm gt gk ge g s l m T->TB w->0<=s->s<=288230376151711744->0<=l->l<=800->bh w u A->1<=k->k<=64->bU k A S->wl A<=100->
 Calls Tryz.prog 26 #[.pointer (some ⟨gw,0,none⟩),u,.int .i64 (k:Int)] w fun e w'=>∃ q s' m',e=.returned (.tuple #[q,.int .i64 0])/\ah w.heap.size w' q S/\aM w' gw gv gr gd gm gt gk ge g s' l m' T/\(0<=s'/\s'<=s+144115188075855872)/\Out (·=g) w w'
def oK:Prop:=∀(w:World) (gw gv gr gd gm gt gk ge g:Nat) (s l m:Int) (T:Tab) (u:Value) (A:Nat) (z:Int),
 aM w gw gv gr gd gm gt gk ge g s l m T->bh w u A->(z<1\/64<z)->
 Calls Tryz.prog 26 #[.pointer (some ⟨gw,0,none⟩),u,.int .i64 z] w fun e w'=>∃ qa qc,e=.returned (.tuple #[.slice qa 0 qc,.int .i64 1])/\Below w.heap.size w w'
def oL:Prop:=∀(w:World) (gw gv gr gd gm gt gk ge g:Nat) (s l m:Int) (T:Tab) (u:Value) (A S:Nat),
 aM w gw gv gr gd gm gt gk ge g s l m T->TB w->0<=s->s<=288230376151711744->0<=l->l<=800->bh w u A->bU 2 A S->S*S=A->wl A<=100->
 Calls Tryz.prog 24 #[.pointer (some ⟨gw,0,none⟩),u] w fun e w'=>∃ q s' m',e=.returned (.tuple #[q,.bool true])/\ah w.heap.size w' q S/\aM w' gw gv gr gd gm gt gk ge g s' l m' T/\(0<=s'/\s'<=s+144115188075855872)/\Out (·=g) w w'
def lI:Prop:=∀(w:World) (gw gv gr gd gm gt gk ge g:Nat) (s l m:Int) (T:Tab) (u:Value) (A S:Nat),
 aM w gw gv gr gd gm gt gk ge g s l m T->TB w->0<=s->s<=288230376151711744->0<=l->l<=800->bh w u A->bU 2 A S->S*S≠A->wl A<=100->
 Calls Tryz.prog 24 #[.pointer (some ⟨gw,0,none⟩),u] w fun e w'=>∃ qa qc s' m',e=.returned (.tuple #[.slice qa 0 qc,.bool false])/\aM w' gw gv gr gd gm gt gk ge g s' l m' T/\(0<=s'/\s'<=s+144115188075855872)/\Out (·=g) w w'
end Go.Proofs.YtgcnhfgpflncaaaGreatDoor
/- Package conv:the plans of the three primes. -/
namespace Go.Proofs.YtgcnhfgpflncaaaGreatDoor
open Go.RowKit
def zD:Nat->Nat
 |0=>dN
 |1=>dC
 |_=>bR
def nY(w:World)(B L p gt:Nat)(S:Int):Prop:=∃(r gm go gp H:Nat) (s l m:Int),PS w gt gm go 0 gp p r L H/\Met w go 0 s l m/\0<=s/\s<=S/\B<=go
theorem nY.next{w w':World}{B L p gt:Nat}{S:Int}(h:nY w B L p gt S)(b:Below w.heap.size w w'):nY w' B L p gt S:=by
 obtain⟨r,gm,go,gp,H,s,l,m,P,M,h0,h1,h2⟩:=h
 exact⟨r,gm,go,gp,H,s,l,m,P.next b,M.next b,h0,h1,h2⟩
theorem PS.away{w:World}{gt gm go oo gp p r L H k:Nat}{s l m:Int}(h:PS w gt gm go oo gp p r L H)(hL:1<=L)(hM:Met w k 0 s l m):gt≠k/\gm≠k/\gp≠k:=by
 have c:=hM.c0
 refine⟨?_,?_,?_⟩
 ·rintro rfl
  rw[h.c0]at c
  injection c with c
  cases c
 ·rintro rfl
  rw[h.mw.c0]at c
  injection c with c
  cases c
 ·rintro rfl
  have hH:1<=H:=by
   obtain⟨t,rfl⟩:∃ t,L=t+1:=⟨L-1,by omega⟩
   have:=h.half
   rw[Nat.pow_succ,Nat.mul_div_cancel _ (by decide)]at this
   rw[this]
   exact aJ t
  have e:=h.pw.cell 0 (by rw[eU];exact hH)
  rw[e]at c
  injection c with c
  cases c
theorem nY.spent{w w':World}{B L p gt k:Nat}{S S' s l m s' l' m':Int}(h:nY w B L p gt S)(hL:1<=L)(hM:Met w k 0 s l m)(hM':Met w' k 0 s' l' m')(hT:Touch k 0 3 w w')(h0:0<=s')(h1:s'<=S')(hS:S<=S'):nY w' B L p gt S':=by
 obtain⟨r,gm,go,gp,H,s1,l1,m1,P,M,a0,a1,a2⟩:=h
 obtain⟨n1,n2,n3⟩:=P.away hL hM
 have P':=P.off hT.grown n1 n2 n3
 by_cases e:go=k
 ·subst e
  exact⟨r,gm,go,gp,H,s',l',m',P',hM',h0,h1,a2⟩
 ·exact⟨r,gm,go,gp,H,s1,l1,m1,P',M.but hT.grown e,a0,by omega,a2⟩
theorem AV:∀ j,j<3->∃ X,Nz (zD j) X
 |0,_=>⟨3,Og⟩
 |1,_=>⟨5,Ky⟩
 |2,_=>⟨3,Kz⟩
theorem Jt:∀ j,j<3->20<=tw (zD j)
 |0,_=>by decide+kernel
 |1,_=>by decide+kernel
 |2,_=>by decide+kernel
theorem AW{j L:Nat}(hj:j<3)(hL:L<=20):(zD j-1)/2^L*2^L=zD j-1:=by
 obtain⟨X,hX⟩:=AV j hj
 have h:=Jt j hj
 have ho:=hX.odd
 exact Ba ho.2.1 (by have:=ho.2.2;omega) (Nat.le_trans hL h)
theorem jI{w:World}{G j L:Nat}{s l m:Int}(hM:Met w G 0 s l m)(hj:j<3)(hL:L<=20)(hT:TB w)(h0:0<=s)(S:Int)(h1:s<=S)(B:Nat)(hB:B<=G):
  Calls Tryz.prog 167 #[.pointer (some ⟨G,0,none⟩),.int .u64 (zD j:Int),.int .i64 (L:Int)] w fun e w'=>∃ gt,e=.returned (.tuple #[.pointer (some ⟨gt,0,none⟩),.int .i64 0])/\nY w' B L (zD j) gt S/\Below w.heap.size w w':=by
 obtain⟨X,hX⟩:=AV j hj
 refine(y7 hM hX hL (Nat.le_trans hL (Jt j hj)) hT).mono ?_
 rintro e w' ⟨gt,gm,gp,H,rfl,P,_,b⟩
 exact⟨gt,rfl,⟨_,gm,G,gp,H,s,l,m,P,hM.next b,h0,h1,hB⟩,b⟩
theorem nY.box{w w':World}{B L p gt G:Nat}{S:Int}{a c:Option Addr}(h:nY w B L p gt S)(hL:1<=L)(h0:w.cell? ⟨G,0,none⟩=some (.pointer a))(h2:w.cell? ⟨G,2,none⟩=some (.pointer c))(hb:w.grownBy w' (some G)):nY w' B L p gt S:=by
 obtain⟨r,gm,go,gp,H,s1,l1,m1,P,M,a0,a1,a2⟩:=h
 have n1:gt≠G:=by
  rintro rfl
  rw[P.c2]at h2
  injection h2 with e
  cases e
 have n2:gm≠G:=by
  rintro rfl
  rw[P.mw.c0]at h0
  injection h0 with e
  cases e
 have n3:gp≠G:=by
  rintro rfl
  have hH:1<=H:=by
   obtain⟨t,rfl⟩:∃ t,L=t+1:=⟨L-1,by omega⟩
   have:=P.half
   rw[Nat.pow_succ,Nat.mul_div_cancel _ (by decide)]at this
   rw[this]
   exact aJ t
  have e:=P.pw.cell 0 (by rw[eU];exact hH)
  rw[e]at h0
  injection h0 with e
  cases e
 have n4:go≠G:=by
  rintro rfl
  rw[M.c0]at h0
  injection h0 with e
  cases e
 exact⟨r,gm,go,gp,H,s1,l1,m1,P.off hb n1 n2 n3,M.but hb n4,a0,a1,a2⟩
def en(w:World)(B L k:Nat)(S:Int)(a0 a1 a2:Option Addr):Prop:=(0<k->∃ gt,a0=some ⟨gt,0,none⟩/\nY w B L dN gt S)/\(1<k->∃ gt,a1=some ⟨gt,0,none⟩/\nY w B L dC gt S)/\(2<k->∃ gt,a2=some ⟨gt,0,none⟩/\nY w B L bR gt S)
theorem en.next{w w':World}{B L k:Nat}{S:Int}{a0 a1 a2:Option Addr}(h:en w B L k S a0 a1 a2)(b:Below w.heap.size w w'):en w' B L k S a0 a1 a2:=by
 refine⟨fun hk=>?_,fun hk=>?_,fun hk=>?_⟩
 ·obtain⟨gt,e,P⟩:=h.1 hk;exact⟨gt,e,P.next b⟩
 ·obtain⟨gt,e,P⟩:=h.2.1 hk;exact⟨gt,e,P.next b⟩
 ·obtain⟨gt,e,P⟩:=h.2.2 hk;exact⟨gt,e,P.next b⟩
theorem en.box{w w':World}{B L k G:Nat}{S:Int}{a0 a1 a2 a c:Option Addr}(h:en w B L k S a0 a1 a2)(hL:1<=L)(h0:w.cell? ⟨G,0,none⟩=some (.pointer a))(h2:w.cell? ⟨G,2,none⟩=some (.pointer c))(hb:w.grownBy w' (some G)):en w' B L k S a0 a1 a2:=by
 refine⟨fun hk=>?_,fun hk=>?_,fun hk=>?_⟩
 ·obtain⟨gt,e,P⟩:=h.1 hk;exact⟨gt,e,P.box hL h0 h2 hb⟩
 ·obtain⟨gt,e,P⟩:=h.2.1 hk;exact⟨gt,e,P.box hL h0 h2 hb⟩
 ·obtain⟨gt,e,P⟩:=h.2.2 hk;exact⟨gt,e,P.box hL h0 h2 hb⟩
theorem en.start(w:World)(B L:Nat)(S:Int)(a0 a1 a2:Option Addr):en w B L 0 S a0 a1 a2:=⟨fun h=>absurd h (by omega),fun h=>absurd h (by omega),fun h=>absurd h (by omega)⟩
theorem en.one{w:World}{B L gt:Nat}{S:Int}{a0 a1 a2:Option Addr}(_h:en w B L 0 S a0 a1 a2)(P:nY w B L dN gt S):en w B L 1 S (some ⟨gt,0,none⟩) a1 a2:=⟨fun _=>⟨gt,rfl,P⟩,fun h=>absurd h (by omega),fun h=>absurd h (by omega)⟩
theorem en.two{w:World}{B L gt:Nat}{S:Int}{a0 a1 a2:Option Addr}(h:en w B L 1 S a0 a1 a2)(P:nY w B L dC gt S):en w B L 2 S a0 (some ⟨gt,0,none⟩) a2:=⟨fun _=>h.1 (by omega),fun _=>⟨gt,rfl,P⟩,fun h=>absurd h (by omega)⟩
theorem en.three{w:World}{B L gt:Nat}{S:Int}{a0 a1 a2:Option Addr}(h:en w B L 2 S a0 a1 a2)(P:nY w B L bR gt S):en w B L 3 S a0 a1 (some ⟨gt,0,none⟩):=⟨fun _=>h.1 (by omega),fun _=>h.2.1 (by omega),fun _=>⟨gt,rfl,P⟩⟩
theorem VB3.mk(w:World)(t:Nat):fM (w.alloc (.cells #[.pointer none,.pointer none,.pointer none] t)) w.heap.size [.pointer none,.pointer none,.pointer none] t:=heap_alloc_new w _
theorem DX(w:World):(Instr.index 188 (.agg #[.int .u64 180143985094819841,.int .i64 55,.int .u64 6,.int .u64 1945555039024054273,.int .i64 56,.int .u64 5,.int .u64 4179340454199820289,.int .i64 57,.int .u64 3]) (.int .i64 0)).run Tryz.prog w=.ok (.agg #[.int .u64 180143985094819841,.int .i64 55,.int .u64 6]) w:=by kernel_rfl
theorem DY(w:World):(Instr.index 188 (.agg #[.int .u64 180143985094819841,.int .i64 55,.int .u64 6,.int .u64 1945555039024054273,.int .i64 56,.int .u64 5,.int .u64 4179340454199820289,.int .i64 57,.int .u64 3]) (.int .i64 1)).run Tryz.prog w=.ok (.agg #[.int .u64 1945555039024054273,.int .i64 56,.int .u64 5]) w:=by kernel_rfl
theorem DZ(w:World):(Instr.index 188 (.agg #[.int .u64 180143985094819841,.int .i64 55,.int .u64 6,.int .u64 1945555039024054273,.int .i64 56,.int .u64 5,.int .u64 4179340454199820289,.int .i64 57,.int .u64 3]) (.int .i64 2)).run Tryz.prog w=.ok (.agg #[.int .u64 4179340454199820289,.int .i64 57,.int .u64 3]) w:=by kernel_rfl
set_option maxRecDepth 100000 in
set_option maxHeartbeats 6400000 in
theorem rN(w:World)(n L:Nat)(h1:2<=n)(h2:n<=1048576)(hL:L=Lib.bitLen (n-1))(hL2:L<=20)(hT:TB w):
  Calls Tryz.prog 138 #[.int .i64 (n:Int)] w fun e w'=>∃ a0 a1 a2,e=.returned (.agg #[.pointer a0,.pointer a1,.pointer a2])/\en w' w.heap.size L 3 0 a0 a1 a2/\Below w.heap.size w w':=by
 have CL:Hid (∀ w,Calls Tryz.prog 60 #[.int .u64 ((n:Int)-1)] w fun e w'=>e=.returned (.int .i64 (L:Int))/\w'=w):=fun w=>by
  have:=gJ ((n:Int)-1) w (by omega) (by omega)
  rwa [show((n:Int)-1).toNat=n-1 from by omega, <-hL]at this
 have C3:=hide (fun w=>jr w)
 have HTB:=hide (fun w' (b:Below w.heap.size w w')=>hT.next b)
 have b1:Below w.heap.size w (w.alloc (.cells #[.pointer none,.pointer none,.pointer none] 163)):=(Below.refl _ _).alloc (Nat.le_refl _) _
 have hR:=VB3.mk w 163
 have sz1:(w.alloc (.cells #[.pointer none,.pointer none,.pointer none] 163)).heap.size=w.heap.size+1:=by simp
 obtain⟨W1,hW1⟩:∃ W1,w.alloc (.cells #[.pointer none,.pointer none,.pointer none] 163)=W1:=⟨_,rfl⟩
 rw[hW1]at b1 hR sz1
 have b2:Below W1.heap.size W1 (W1.alloc (.cells #[.pointer none,.pointer none,.pointer none] 163)):=(Below.refl _ _).alloc (Nat.le_refl _) _
 have hG0:=VB3.mk W1 163
 have sz2:(W1.alloc (.cells #[.pointer none,.pointer none,.pointer none] 163)).heap.size=W1.heap.size+1:=by simp
 obtain⟨W2,hW2⟩:∃ W2,W1.alloc (.cells #[.pointer none,.pointer none,.pointer none] 163)=W2:=⟨_,rfl⟩
 rw[hW2]at b2 hG0 sz2
 obtain⟨G,hG⟩:∃ G,W1.heap.size=G:=⟨_,rfl⟩
 rw[hG]at hG0
 have WG:Hid (w.heap.size<=G):=by show _<=_;omega
 obtain⟨R,hR0⟩:∃ R,w.heap.size=R:=⟨_,rfl⟩
 rw[hR0]at hR
 have RG:Hid (R≠G):=by show ¬_;omega
 have WR:Hid (w.heap.size<=R):=Nat.le_of_eq hR0
 have bl:=hide (ag b1 b2)
 have HV0:=hide hG0
 have HR:=hide (hR.next b2)
 have hL1:Hid (1<=L):=by show 1<=L;have:=(eG 20 (n-1) (by omega) (by omega) (by omega)).1;omega
 clear hL hT b1 b2 hR hG0 sz1 sz2
 go_enter Tryz.func138,Tryz.ntmps138
 go_wp2_with fail
 refine(ae CL _).mono ?_
 rintro e w1 ⟨rfl,hw⟩
 obtain rfl:=hw.symm
 clear hw CL
 go_wp2_with fail
 refine(ae C3 _).mono ?_
 rintro e w3 ⟨rfl,b⟩
 have bl:=hide (ag (ae bl) b)
 have HV0:=hide ((ae HV0).next b)
 have HR:=hide ((ae HR).next b)
 clear C3 b hW1 hW2 hG
 go_wp2
 clear hR0
 go_loopw [12] (fun iv wr=>∃(k:Nat) (a0 a1 a2:Option Addr),k<=3/\iv=.int .i64 (k:Int)/\fM wr G [.pointer a0,.pointer a1,.pointer a2] 163/\fM wr R [.pointer none,.pointer none,.pointer none] 163/\en wr w.heap.size L k 0 a0 a1 a2/\Below w.heap.size w wr) (fun iv _=>3-(intOf iv).toNat)
 case atStart=>exact⟨0,none,none,none,by decide,rfl,ae HV0,ae HR,en.start _ _ _ _ _ _ _,ae bl⟩
 case round=>
  have hL1:=ae hL1
  clear HV0 bl
  obtain⟨k,a0,a1,a2,hk,rfl,hV,hRw,hP,hb⟩:=hrel
  have hk4:k=0\/k=1\/k=2\/k=3:=by omega
  clear hk
  rcases hk4 with rfl|rfl|rfl|rfl
  ·have hix:=DX
   have bA:Below wr.heap.size wr (wr.alloc (.cells #[.int .u64 180143985094819841,.int .i64 55,.int .u64 6] 187)):=(Below.refl _ _).alloc (Nat.le_refl _) _
   have mt:=tj (wr.alloc (.cells #[.int .u64 180143985094819841,.int .i64 55,.int .u64 6] 187)) 109
   have bB:Below wr.heap.size wr ((wr.alloc (.cells #[.int .u64 180143985094819841,.int .i64 55,.int .u64 6] 187)).alloc (.cells #[.int .i64 0,.int .i64 0,.int .i64 0] 109)):=bA.alloc bA.size _
   have e1:(wr.alloc (.cells #[.int .u64 180143985094819841,.int .i64 55,.int .u64 6] 187)).heap.size=wr.heap.size+1:=by simp
   rw[e1]at mt
   have hTw:=ae HTB _ (ag hb bB)
   have hsz:w.heap.size<=wr.heap.size+1:=by have:=hb.size;omega
   have CP:Hid (Calls Tryz.prog 167 #[.pointer (some ⟨wr.heap.size+1,0,none⟩),.int .u64 180143985094819841,.int .i64 (L:Int)] ((wr.alloc (.cells #[.int .u64 180143985094819841,.int .i64 55,.int .u64 6] 187)).alloc (.cells #[.int .i64 0,.int .i64 0,.int .i64 0] 109)) fun e w'=>∃ gt,e=.returned (.tuple #[.pointer (some ⟨gt,0,none⟩),.int .i64 0])/\nY w' w.heap.size L (zD 0) gt 0/\Below ((wr.alloc (.cells #[.int .u64 180143985094819841,.int .i64 55,.int .u64 6] 187)).alloc (.cells #[.int .i64 0,.int .i64 0,.int .i64 0] 109)).heap.size ((wr.alloc (.cells #[.int .u64 180143985094819841,.int .i64 55,.int .u64 6] 187)).alloc (.cells #[.int .i64 0,.int .i64 0,.int .i64 0] 109)) w'):=jI (j:=0) mt (by decide) hL2 hTw (by decide) 0 (by decide) w.heap.size hsz
   have BB:=hide bB
   have HB:=hide hb
   have HV:=hide hV
   have HRw:=hide hRw
   have HP:=hide hP
   clear bA mt bB e1 hTw hsz hb hV hP hRw
   go_wp2_with fail
   refine(ae CP).mono ?_
   rintro e w5 ⟨gt,rfl,hPl,b5⟩
   have b6:=ag (ae BB) b5
   have V6:=(ae HV).next b6
   have q0:w5.cell? ⟨G,0,none⟩=some (.pointer a0):=V6.cell 0 (by simp)
   have q2:w5.cell? ⟨G,2,none⟩=some (.pointer a2):=V6.cell 2 (by simp)
   have cv:w5.cell? ⟨G,0,none⟩=some (.pointer a0):=V6.cell 0 (by simp)
   have fv:=V6.frozen 0
   have V7:Hid (fM (w5.setCell ⟨G,0,none⟩ (.pointer (some ⟨gt,0,none⟩))) G [.pointer (some ⟨gt,0,none⟩),.pointer a1,.pointer a2] 163):=V6.set 0 (.pointer (some ⟨gt,0,none⟩))
   have B7:=hide ((ag (ae HB) b6).setCell (p:=⟨G,0,none⟩) (ae WG) (.pointer (some ⟨gt,0,none⟩)))
   have P7:=hide ((((ae HP).next b6).one hPl).box hL1 q0 q2 (aj _ G 0 (.pointer (some ⟨gt,0,none⟩))))
   have R7:=hide (((ae HRw).next b6).but (aj w5 G 0 (.pointer (some ⟨gt,0,none⟩))) (ae RG))
   clear hPl b5 b6 V6 CP BB q0 q2
   go_wp2
   go_roundw
   case rel=>exact⟨1,_,_,_,by decide,rfl,ae V7,ae R7,ae P7,ae B7⟩
   case measure=>simp[intOf]
  ·have hix:=DY
   have bA:Below wr.heap.size wr (wr.alloc (.cells #[.int .u64 1945555039024054273,.int .i64 56,.int .u64 5] 187)):=(Below.refl _ _).alloc (Nat.le_refl _) _
   have mt:=tj (wr.alloc (.cells #[.int .u64 1945555039024054273,.int .i64 56,.int .u64 5] 187)) 109
   have bB:Below wr.heap.size wr ((wr.alloc (.cells #[.int .u64 1945555039024054273,.int .i64 56,.int .u64 5] 187)).alloc (.cells #[.int .i64 0,.int .i64 0,.int .i64 0] 109)):=bA.alloc bA.size _
   have e1:(wr.alloc (.cells #[.int .u64 1945555039024054273,.int .i64 56,.int .u64 5] 187)).heap.size=wr.heap.size+1:=by simp
   rw[e1]at mt
   have hTw:=ae HTB _ (ag hb bB)
   have hsz:w.heap.size<=wr.heap.size+1:=by have:=hb.size;omega
   have CP:Hid (Calls Tryz.prog 167 #[.pointer (some ⟨wr.heap.size+1,0,none⟩),.int .u64 1945555039024054273,.int .i64 (L:Int)] ((wr.alloc (.cells #[.int .u64 1945555039024054273,.int .i64 56,.int .u64 5] 187)).alloc (.cells #[.int .i64 0,.int .i64 0,.int .i64 0] 109)) fun e w'=>∃ gt,e=.returned (.tuple #[.pointer (some ⟨gt,0,none⟩),.int .i64 0])/\nY w' w.heap.size L (zD 1) gt 0/\Below ((wr.alloc (.cells #[.int .u64 1945555039024054273,.int .i64 56,.int .u64 5] 187)).alloc (.cells #[.int .i64 0,.int .i64 0,.int .i64 0] 109)).heap.size ((wr.alloc (.cells #[.int .u64 1945555039024054273,.int .i64 56,.int .u64 5] 187)).alloc (.cells #[.int .i64 0,.int .i64 0,.int .i64 0] 109)) w'):=jI (j:=1) mt (by decide) hL2 hTw (by decide) 0 (by decide) w.heap.size hsz
   have BB:=hide bB
   have HB:=hide hb
   have HV:=hide hV
   have HRw:=hide hRw
   have HP:=hide hP
   clear bA mt bB e1 hTw hsz hb hV hP hRw
   go_wp2_with fail
   refine(ae CP).mono ?_
   rintro e w5 ⟨gt,rfl,hPl,b5⟩
   have b6:=ag (ae BB) b5
   have V6:=(ae HV).next b6
   have q0:w5.cell? ⟨G,0,none⟩=some (.pointer a0):=V6.cell 0 (by simp)
   have q2:w5.cell? ⟨G,2,none⟩=some (.pointer a2):=V6.cell 2 (by simp)
   have cv:w5.cell? ⟨G,1,none⟩=some (.pointer a1):=V6.cell 1 (by simp)
   have fv:=V6.frozen 1
   have V7:Hid (fM (w5.setCell ⟨G,1,none⟩ (.pointer (some ⟨gt,0,none⟩))) G [.pointer a0,.pointer (some ⟨gt,0,none⟩),.pointer a2] 163):=V6.set 1 (.pointer (some ⟨gt,0,none⟩))
   have B7:=hide ((ag (ae HB) b6).setCell (p:=⟨G,1,none⟩) (ae WG) (.pointer (some ⟨gt,0,none⟩)))
   have P7:=hide ((((ae HP).next b6).two hPl).box hL1 q0 q2 (aj _ G 1 (.pointer (some ⟨gt,0,none⟩))))
   have R7:=hide (((ae HRw).next b6).but (aj w5 G 1 (.pointer (some ⟨gt,0,none⟩))) (ae RG))
   clear hPl b5 b6 V6 CP BB q0 q2
   go_wp2
   go_roundw
   case rel=>exact⟨2,_,_,_,by decide,rfl,ae V7,ae R7,ae P7,ae B7⟩
   case measure=>simp[intOf]
  ·have hix:=DZ
   have bA:Below wr.heap.size wr (wr.alloc (.cells #[.int .u64 4179340454199820289,.int .i64 57,.int .u64 3] 187)):=(Below.refl _ _).alloc (Nat.le_refl _) _
   have mt:=tj (wr.alloc (.cells #[.int .u64 4179340454199820289,.int .i64 57,.int .u64 3] 187)) 109
   have bB:Below wr.heap.size wr ((wr.alloc (.cells #[.int .u64 4179340454199820289,.int .i64 57,.int .u64 3] 187)).alloc (.cells #[.int .i64 0,.int .i64 0,.int .i64 0] 109)):=bA.alloc bA.size _
   have e1:(wr.alloc (.cells #[.int .u64 4179340454199820289,.int .i64 57,.int .u64 3] 187)).heap.size=wr.heap.size+1:=by simp
   rw[e1]at mt
   have hTw:=ae HTB _ (ag hb bB)
   have hsz:w.heap.size<=wr.heap.size+1:=by have:=hb.size;omega
   have CP:Hid (Calls Tryz.prog 167 #[.pointer (some ⟨wr.heap.size+1,0,none⟩),.int .u64 4179340454199820289,.int .i64 (L:Int)] ((wr.alloc (.cells #[.int .u64 4179340454199820289,.int .i64 57,.int .u64 3] 187)).alloc (.cells #[.int .i64 0,.int .i64 0,.int .i64 0] 109)) fun e w'=>∃ gt,e=.returned (.tuple #[.pointer (some ⟨gt,0,none⟩),.int .i64 0])/\nY w' w.heap.size L (zD 2) gt 0/\Below ((wr.alloc (.cells #[.int .u64 4179340454199820289,.int .i64 57,.int .u64 3] 187)).alloc (.cells #[.int .i64 0,.int .i64 0,.int .i64 0] 109)).heap.size ((wr.alloc (.cells #[.int .u64 4179340454199820289,.int .i64 57,.int .u64 3] 187)).alloc (.cells #[.int .i64 0,.int .i64 0,.int .i64 0] 109)) w'):=jI (j:=2) mt (by decide) hL2 hTw (by decide) 0 (by decide) w.heap.size hsz
   have BB:=hide bB
   have HB:=hide hb
   have HV:=hide hV
   have HRw:=hide hRw
   have HP:=hide hP
   clear bA mt bB e1 hTw hsz hb hV hP hRw
   go_wp2_with fail
   refine(ae CP).mono ?_
   rintro e w5 ⟨gt,rfl,hPl,b5⟩
   have b6:=ag (ae BB) b5
   have V6:=(ae HV).next b6
   have q0:w5.cell? ⟨G,0,none⟩=some (.pointer a0):=V6.cell 0 (by simp)
   have q2:w5.cell? ⟨G,2,none⟩=some (.pointer a2):=V6.cell 2 (by simp)
   have cv:w5.cell? ⟨G,2,none⟩=some (.pointer a2):=V6.cell 2 (by simp)
   have fv:=V6.frozen 2
   have V7:Hid (fM (w5.setCell ⟨G,2,none⟩ (.pointer (some ⟨gt,0,none⟩))) G [.pointer a0,.pointer a1,.pointer (some ⟨gt,0,none⟩)] 163):=V6.set 2 (.pointer (some ⟨gt,0,none⟩))
   have B7:=hide ((ag (ae HB) b6).setCell (p:=⟨G,2,none⟩) (ae WG) (.pointer (some ⟨gt,0,none⟩)))
   have P7:=hide ((((ae HP).next b6).three hPl).box hL1 q0 q2 (aj _ G 2 (.pointer (some ⟨gt,0,none⟩))))
   have R7:=hide (((ae HRw).next b6).but (aj w5 G 2 (.pointer (some ⟨gt,0,none⟩))) (ae RG))
   clear hPl b5 b6 V6 CP BB q0 q2
   go_wp2
   go_roundw
   case rel=>exact⟨3,_,_,_,by decide,rfl,ae V7,ae R7,ae P7,ae B7⟩
   case measure=>simp[intOf]
  ·have g0:wr.cell? ⟨G,0,none⟩=some (.pointer a0):=hV.cell 0 (by simp)
   have g1:wr.cell? ⟨G,1,none⟩=some (.pointer a1):=hV.cell 1 (by simp)
   have g2:wr.cell? ⟨G,2,none⟩=some (.pointer a2):=hV.cell 2 (by simp)
   have z0:wr.cell? ⟨R,0,none⟩=some (.pointer none):=hRw.cell 0 (by simp)
   have z1:wr.cell? ⟨R,1,none⟩=some (.pointer none):=hRw.cell 1 (by simp)
   have z2:wr.cell? ⟨R,2,none⟩=some (.pointer none):=hRw.cell 2 (by simp)
   have f0:=hRw.frozen 0
   have f1:=hRw.frozen 1
   have f2:=hRw.frozen 2
   have HP:=hide (hP.box hL1 z0 z2 (az (az (aj wr R 0 (.pointer a0)) (aj _ R 1 (.pointer a1))) (aj _ R 2 (.pointer a2))))
   have HB:=hide (((hb.setCell (p:=⟨R,0,none⟩) (ae WR) (.pointer a0)).setCell (p:=⟨R,1,none⟩) (ae WR) (.pointer a1)).setCell (p:=⟨R,2,none⟩) (ae WR) (.pointer a2))
   clear hP hb hV hRw
   go_wp2
   refine bodyPost_ret (v:=.agg #[.pointer a0,.pointer a1,.pointer a2]) (by simp[results,Tryz.results138,go_sem,z0,z1,z2]) rfl ?_
   exact⟨a0,a1,a2,rfl,ae HP,ae HB⟩
end Go.Proofs.YtgcnhfgpflncaaaGreatDoor
/- What the statements on package conv ask of its calls:as propositions,for whatever code. -/
namespace Go.Proofs.YtgcnhfgpflncaaaGreatDoor
open Go.RowKit
theorem Jk(n m ways:Nat)(w:World)(h1:1<=n)(h2:n<=16384)(h3:1<=m)(h4:m<=16384)(h5:ways<=3):
  Calls Tryz.prog 137 #[.int .i64 (n:Int),.int .i64 (m:Int),.int .i64 (ways:Int)] w fun e w'=>e=.returned (.int .i64 (tf n m ways:Int))/\w'=w:=by
 have:=qf (n:Int) (m:Int) (ways:Int) w
 rw[AP h1 h2 h3 h4 h5]at this
 exact this
end Go.Proofs.YtgcnhfgpflncaaaGreatDoor
/- What the statements on package conv ask of Words,and the sums that they reckon by hand. -/
namespace Go.Proofs.YtgcnhfgpflncaaaGreatDoor
open Go.RowKit
def ps(xs ys:List Nat)(k:Nat):Nat->Nat
 |0=>0
 |i+1=>ps xs ys k i+if i<=k/\k-i<ys.length then xs.getD i 0*ys.getD (k-i) 0 else 0
end Go.Proofs.YtgcnhfgpflncaaaGreatDoor
/- Package conv:Words. -/
namespace Go.Proofs.YtgcnhfgpflncaaaGreatDoor
open Go.RowKit
theorem TB.touch{w w':World}{g o:Nat}{s l m:Int}(h:TB w)(hM:Met w g o s l m)(hT:Touch g o 3 w w'):TB w':=
 ⟨fun j hj=>Touch.keep hM hT (h.b j hj) (fun x e=>by cases e),fun j hj=>Touch.keep hM hT (h.d j hj) (fun x e=>by cases e)⟩
set_option maxHeartbeats 800000 in
theorem Ag(n m:Nat)(w:World)(h1:1<=n)(h2:1<=m)(h3:n+m<=1048576):
  Calls Tryz.prog 136 #[.int .i64 (n:Int),.int .i64 (m:Int)] w fun e w'=>e=.returned (.bool true)/\w'=w:=by
 obtain⟨t,ht⟩:∃ t,t=n+m:=⟨_,rfl⟩
 have e1:(n:Int)+(m:Int)=(t:Int):=by omega
 have e2:IntKind.i64.wrap (t:Int)=(t:Int):=by rw[IntKind.wrap_i64];omega
 have q1:(0:Int)<(n:Int):=by omega
 have q2:(0:Int)<(m:Int):=by omega
 have q3:(t:Int)<=1048576:=by omega
 clear ht
 go_enter Tryz.func136,Tryz.ntmps136
 go_wp2
 go_ret
 exact⟨rfl,rfl⟩
def kD(w:World)(p q N:Nat)(T:Nat->Nat)(v:Value):Prop:=∃ g zs,v=.slice (some ⟨g,0,none⟩) q N/\aB w g zs/\q<=zs.length/\zs.length=N/\∀ i,i<q->zs.getD i 0=T i%p
theorem kD.touch{w w':World}{p q N k:Nat}{T:Nat->Nat}{v:Value}{s l m:Int}(h:kD w p q N T v)(hq:1<=q)(hM:Met w k 0 s l m)(hT:Touch k 0 3 w w'):kD w' p q N T v:=by
 obtain⟨g,zs,e,hB,h1,h2,h3⟩:=h
 refine⟨g,zs,e,hB.but hT.grown ?_,h1,h2,h3⟩
 rintro rfl
 have c:=hB.cell 0 (by omega)
 rw[hM.c0]at c
 injection c with c
 cases c
theorem kD.box{w w':World}{p q N G:Nat}{T:Nat->Nat}{v:Value}{a:Option Addr}{n c:Nat}(h:kD w p q N T v)(hq:1<=q)(h0:w.cell? ⟨G,0,none⟩=some (.slice a n c))(hb:w.grownBy w' (some G)):kD w' p q N T v:=by
 obtain⟨g,zs,e,hB,h1,h2,h3⟩:=h
 refine⟨g,zs,e,hB.but hb ?_,h1,h2,h3⟩
 rintro rfl
 have c:=hB.cell 0 (by omega)
 rw[h0]at c
 injection c with c
 cases c
theorem nY.rows{w w':World}{B L p gt G:Nat}{S:Int}{a:Option Addr}{n c:Nat}(h:nY w B L p gt S)(hL:1<=L)(h0:w.cell? ⟨G,0,none⟩=some (.slice a n c))(hb:w.grownBy w' (some G)):nY w' B L p gt S:=by
 obtain⟨r,gm,go,gp,H,s1,l1,m1,P,M,a0,a1,a2⟩:=h
 have n1:gt≠G:=by
  rintro rfl
  rw[P.c0]at h0
  injection h0 with e
  cases e
 have n2:gm≠G:=by
  rintro rfl
  rw[P.mw.c0]at h0
  injection h0 with e
  cases e
 have n3:gp≠G:=by
  rintro rfl
  have hH:1<=H:=by
   obtain⟨t,rfl⟩:∃ t,L=t+1:=⟨L-1,by omega⟩
   have:=P.half
   rw[Nat.pow_succ,Nat.mul_div_cancel _ (by decide)]at this
   rw[this]
   exact aJ t
  have e:=P.pw.cell 0 (by rw[eU];exact hH)
  rw[e]at h0
  injection h0 with e
  cases e
 have n4:go≠G:=by
  rintro rfl
  rw[M.c0]at h0
  injection h0 with e
  cases e
 exact⟨r,gm,go,gp,H,s1,l1,m1,P.off hb n1 n2 n3,M.but hb n4,a0,a1,a2⟩
theorem kV{w:World}{B L j gt:Nat}{S:Int}(hP:nY w B L (zD j) gt S)(hj:j<3)(N q:Nat)(hN:N=2^L)(ga gb:Option Addr)(b o cap b' o' cap' la lb:Nat)(xs ys:List Nat)(hl:xs.length=la)(hR:Rep w ga b o cap xs)(hl':ys.length=lb)(hR':Rep w gb b' o' cap' ys)(ha:1<=la)(hb:1<=lb)(hn:q+1=la+lb)(hnN:q<=N)(hL2:L<=20)(hS:S<=109951162777600):
  Calls Tryz.prog 201 #[.pointer (some ⟨gt,0,none⟩),.slice ga la cap,.slice gb lb cap'] w fun e w'=>∃ v,e=.returned (.tuple #[v,.bool true])/\kD w' (zD j) q N (cs xs ys) v/\(∃ k s l m s' l' m',Met w k 0 s l m/\Met w' k 0 s' l' m'/\Touch k 0 3 w w'/\0<=s'/\s'<=S+1099511627776/\B<=k):=by
 obtain⟨r,gm,go,gp,H,s1,l1,m1,P,M,a0,a1,a2⟩:=hP
 have hNb:=aW P.low
 rw[<-hN]at hNb
 have hHb:H<=1048576:=by have:=P.half;rw[<-hN]at this;omega
 have hsp:=iD hHb P.low
 refine(F6 P M N q hN ga gb b o cap b' o' cap' la lb xs ys hl hR hl' hR' ha hb hn hnN a0 (by omega)).mono ?_
 rintro e w' ⟨g,rfl,hg,hB,M',T'⟩
 have hp:=P.mw.low
 have hlen:=kW (zD j) r L (aR N xs) (aR N ys)
 rw[<-hN]at hlen
 refine⟨_,rfl,⟨g,_,rfl,hB,by rw[hlen];exact hnN,hlen,fun i hi=>?_⟩,go,s1,l1,m1,_,l1,m1,M,M',T',?_,?_,a2⟩
 ·have hc:=vm (n:=q) (xs:=xs) (ys:=ys) (by omega) P.rt (AW hj hL2) (by omega) (by omega) (by omega) (by rw[<-hN];exact hnN)
  rw[<-hN]at hc
  rw[<-take_at _ hi,hc]
  exact zZ (by omega) (by omega) hi
 ·omega
 ·omega
def Sl(v:Value):Prop:=∃ a n c,v=.slice a n c
structure qA(w:World)(k q N:Nat)(T:Nat->Nat)(v0 v1 v2:Value):Prop where
 s0:Sl v0
 r0:0<k->kD w dN q N T v0
 r1:1<k->kD w dC q N T v1
 r2:2<k->kD w bR q N T v2
theorem qA.touch{w w':World}{k q N g:Nat}{T:Nat->Nat}{v0 v1 v2:Value}{s l m:Int}(h:qA w k q N T v0 v1 v2)(hq:1<=q)(hM:Met w g 0 s l m)(hT:Touch g 0 3 w w'):qA w' k q N T v0 v1 v2:=
 ⟨h.s0,fun hk=>(h.r0 hk).touch hq hM hT,fun hk=>(h.r1 hk).touch hq hM hT,fun hk=>(h.r2 hk).touch hq hM hT⟩
theorem kD.sl{w:World}{p q N:Nat}{T:Nat->Nat}{v:Value}(h:kD w p q N T v):Sl v:=by
 obtain⟨g,zs,e,_⟩:=h
 exact⟨_,_,_,e⟩
theorem qA.box{w w':World}{k q N G:Nat}{T:Nat->Nat}{v0 v1 v2 v:Value}(h:qA w k q N T v0 v1 v2)(hq:1<=q)(hs:Sl v)(h0:w.cell? ⟨G,0,none⟩=some v)(hb:w.grownBy w' (some G)):qA w' k q N T v0 v1 v2:=by
 obtain⟨a,n,c,rfl⟩:=hs
 exact⟨h.s0,fun hk=>(h.r0 hk).box hq h0 hb,fun hk=>(h.r1 hk).box hq h0 hb,fun hk=>(h.r2 hk).box hq h0 hb⟩
theorem qA.start(w:World)(q N:Nat)(T:Nat->Nat):qA w 0 q N T (.slice none 0 0) (.slice none 0 0) (.slice none 0 0):=
 ⟨⟨_,_,_,rfl⟩,fun h=>absurd h (by omega),fun h=>absurd h (by omega),fun h=>absurd h (by omega)⟩
theorem qA.one{w:World}{q N:Nat}{T:Nat->Nat}{v0 v1 v2 v:Value}(_h:qA w 0 q N T v0 v1 v2)(r:kD w dN q N T v):qA w 1 q N T v v1 v2:=
 ⟨r.sl,fun _=>r,fun h=>absurd h (by omega),fun h=>absurd h (by omega)⟩
theorem qA.two{w:World}{q N:Nat}{T:Nat->Nat}{v0 v1 v2 v:Value}(h:qA w 1 q N T v0 v1 v2)(r:kD w dC q N T v):qA w 2 q N T v0 v v2:=
 ⟨h.s0,fun _=>h.r0 (by omega),fun _=>r,fun h=>absurd h (by omega)⟩
theorem qA.three{w:World}{q N:Nat}{T:Nat->Nat}{v0 v1 v2 v:Value}(h:qA w 2 q N T v0 v1 v2)(r:kD w bR q N T v):qA w 3 q N T v0 v1 v:=
 ⟨h.s0,fun _=>h.r0 (by omega),fun _=>h.r1 (by omega),fun _=>r⟩
theorem en.spent{w w':World}{B L n k:Nat}{S S' s l m s' l' m':Int}{a0 a1 a2:Option Addr}(h:en w B L n S a0 a1 a2)(hL:1<=L)(hM:Met w k 0 s l m)(hM':Met w' k 0 s' l' m')(hT:Touch k 0 3 w w')(h0:0<=s')(h1:s'<=S')(hS:S<=S'):en w' B L n S' a0 a1 a2:=by
 refine⟨fun hk=>?_,fun hk=>?_,fun hk=>?_⟩
 ·obtain⟨gt,e,P⟩:=h.1 hk;exact⟨gt,e,P.spent hL hM hM' hT h0 h1 hS⟩
 ·obtain⟨gt,e,P⟩:=h.2.1 hk;exact⟨gt,e,P.spent hL hM hM' hT h0 h1 hS⟩
 ·obtain⟨gt,e,P⟩:=h.2.2 hk;exact⟨gt,e,P.spent hL hM hM' hT h0 h1 hS⟩
theorem en.rows{w w':World}{B L n G:Nat}{S:Int}{a0 a1 a2:Option Addr}{v:Value}(h:en w B L n S a0 a1 a2)(hL:1<=L)(hs:Sl v)(h0:w.cell? ⟨G,0,none⟩=some v)(hb:w.grownBy w' (some G)):en w' B L n S a0 a1 a2:=by
 obtain⟨a,k,c,rfl⟩:=hs
 refine⟨fun hk=>?_,fun hk=>?_,fun hk=>?_⟩
 ·obtain⟨gt,e,P⟩:=h.1 hk;exact⟨gt,e,P.rows hL h0 hb⟩
 ·obtain⟨gt,e,P⟩:=h.2.1 hk;exact⟨gt,e,P.rows hL h0 hb⟩
 ·obtain⟨gt,e,P⟩:=h.2.2 hk;exact⟨gt,e,P.rows hL h0 hb⟩
theorem kJ{w:World}{q N:Nat}{T:Nat->Nat}{v0 v1 v2:Value}(h:qA w 3 q N T v0 v1 v2)(hT:∀ k,T k<dN*dC*bR)(hq:q<=2097152):
  Calls Tryz.prog 141 #[.agg #[v0,v1,v2]] w fun e w'=>∃ g,e=.returned (.slice (some ⟨g,0,none⟩) q q)/\w.heap.size<=g/\g9 w' g q T/\Below w.heap.size w w':=by
 obtain⟨g0,z0,rfl,B0,l0,e0,c0⟩:=h.r0 (by decide)
 obtain⟨g1,z1,rfl,B1,l1,e1,c1⟩:=h.r1 (by decide)
 obtain⟨g2,z2,rfl,B2,l2,e2,c2⟩:=h.r2 (by decide)
 have R0:=B0.rep 0 q N (by omega) (by omega)
 have R1:=B1.rep 0 q N (by omega) (by omega)
 have R2:=B2.rep 0 q N (by omega) (by omega)
 rw[List.drop_zero]at R0 R1 R2
 refine wk T hq R0 R1 R2 (by simp;omega) (by simp;omega) (by simp;omega) fun k hk=>?_
 rw[take_at _ hk,take_at _ hk,take_at _ hk,c0 k hk,c1 k hk,c2 k hk]
 exact⟨(Nat.mod_mod _ _).symm,(Nat.mod_mod _ _).symm,(Nat.mod_mod _ _).symm,hT k⟩
theorem wt(a0 a1 a2:Option Addr)(w:World):(Instr.index 163 (.agg #[.pointer a0,.pointer a1,.pointer a2]) (.int .i64 0)).run Tryz.prog w=.ok (.pointer a0) w:=by kernel_rfl
theorem wu(a0 a1 a2:Option Addr)(w:World):(Instr.index 163 (.agg #[.pointer a0,.pointer a1,.pointer a2]) (.int .i64 1)).run Tryz.prog w=.ok (.pointer a1) w:=by kernel_rfl
theorem wv(a0 a1 a2:Option Addr)(w:World):(Instr.index 163 (.agg #[.pointer a0,.pointer a1,.pointer a2]) (.int .i64 2)).run Tryz.prog w=.ok (.pointer a2) w:=by kernel_rfl
theorem Nx(n m ways:Nat)(h1:1<=n)(h2:n<=16384)(h3:1<=m)(h4:m<=16384)(h5:ways<=3):tf n m ways<=1073741824:=by
 have h:=(rq (n+m) (by omega) (by omega)).2.2
 exact Nat.le_trans (xK h h5) (by decide)
set_option maxRecDepth 100000 in
set_option maxHeartbeats 6400000 in
theorem Fg(w:World)(go oo:Nat)(s l m:Int)(ga gb:Option Addr)(b o cap la b' o' cap' lb q:Nat)(xs ys:List Nat)(hT:TB w)(hM:Met w go oo s l m)(hs0:0<=s)(hs:s<=2305843009213693952)(hl:xs.length=la)(hR:Rep w ga b o cap xs)(dx:ao xs)(hl':ys.length=lb)(hR':Rep w gb b' o' cap' ys)(dy:ao ys)(ha:1<=la)(ha2:la<=16384)(hb:1<=lb)(hb2:lb<=16384)(hq:q+1=la+lb):
  Calls Tryz.prog 176 #[.pointer (some ⟨go,oo,none⟩),.slice ga la cap,.slice gb lb cap'] w fun e w'=>∃ g,e=.returned (.tuple #[.slice (some ⟨g,0,none⟩) q q,.bool true])/\w.heap.size<=g/\g9 w' g q (cs xs ys)/\Met w' go oo (s+(tf la lb 3:Int)) l m/\Touch go oo 3 w w':=by
 obtain⟨n,hn⟩:∃ n,n=la+lb:=⟨_,rfl⟩
 obtain⟨L,hL⟩:∃ L,L=Lib.bitLen (n-1):=⟨_,rfl⟩
 obtain⟨L1,L2,_,L4⟩:=eG 15 (n-1) (by omega) (by omega) (by omega)
 rw[<-hL]at L1 L2 L4
 obtain⟨N,hN⟩:∃ N,N=2^L:=⟨_,rfl⟩
 rw[<-hN]at L4
 have hqN:q<=N:=by omega
 have CF:=hide (fun w=>Ag la lb w ha hb (by omega))
 have CT:=hide (fun w=>Jk la lb 3 w ha ha2 hb hb2 (by decide))
 have htf:=Nx la lb 3 ha ha2 hb hb2 (by decide)
 have CS:=hide (dn (tf la lb 3:Int) (s+(tf la lb 3:Int)) hM (by omega) (by omega) (by omega))
 have CP:=hide (fun w hT=>rN w n L (by omega) (by omega) hL (by omega) hT)
 have HT:=hide (fun w' (t:Touch go oo 3 w w')=>(hT.touch hM t))
 have HR:=hide (fun w' (t:Touch go oo 3 w w')=>(hR.touch hM t))
 have HR':=hide (fun w' (t:Touch go oo 3 w w')=>(hR'.touch hM t))
 have e1:(la:Int)+(lb:Int)=(n:Int):=by omega
 have e2:IntKind.i64.wrap (n:Int)=(n:Int):=by rw[IntKind.wrap_i64];omega
 generalize tf la lb 3=C at *
 have HN:=hide hN
 have HTL:Hid (∀ k,cs xs ys k<dN*dC*bR):=fun k=>MV dx dy (by omega) k
 have HL1:=hide L1
 have hq1:1<=q:=by omega
 have hb0:=hb
 have hq0:=hq
 clear hM hT hR hR' hN hL hn htf
 go_enter Tryz.func176,Tryz.ntmps176
 go_wp2_with fail
 refine(ae CF _).mono ?_
 rintro e w1 ⟨rfl,hw⟩
 obtain rfl:=hw.symm
 clear hw CF
 go_wp2_with fail
 refine(ae CT _).mono ?_
 rintro e w1 ⟨rfl,hw⟩
 obtain rfl:=hw.symm
 clear hw CT
 go_wp2_with fail
 refine(ae CS).mono ?_
 rintro e w1 ⟨rfl,M1,T1⟩
 have hT1:=ae HT _ T1
 have R1:=ae HR _ T1
 have R1':=ae HR' _ T1
 have b2:Below w1.heap.size w1 (w1.alloc (.cells #[.slice none 0 0,.slice none 0 0,.slice none 0 0] 161)):=(Below.refl _ _).alloc (Nat.le_refl _) _
 have V2:fM (w1.alloc (.cells #[.slice none 0 0,.slice none 0 0,.slice none 0 0] 161)) w1.heap.size [.slice none 0 0,.slice none 0 0,.slice none 0 0] 161:=heap_alloc_new w1 _
 obtain⟨W2,hW2⟩:∃ W2,w1.alloc (.cells #[.slice none 0 0,.slice none 0 0,.slice none 0 0] 161)=W2:=⟨_,rfl⟩
 rw[hW2]at b2 V2
 obtain⟨X,hX⟩:∃ X,w1.heap.size=X:=⟨_,rfl⟩
 rw[hX]at V2
 have CP:=hide (ae CP W2 (hT1.next b2))
 have WX:Hid (w1.heap.size<=X):=Nat.le_of_eq hX
 have HB2:=hide b2
 have HV2:=hide V2
 have HM1:=hide M1
 have HT1:=hide T1
 have HR1:=hide R1
 have HR1':=hide R1'
 clear CS HT HR HR' M1 T1 hT1 R1 R1' b2 V2
 go_wp2_with fail
 refine(ae CP).mono ?_
 rintro e w3 ⟨a0,a1,a2,rfl,hP,b3⟩
 have B3:=hide (ag (ae HB2) b3)
 have V3:=hide ((ae HV2).next b3)
 have hsz2:Hid (w1.heap.size<=W2.heap.size):=(ae HB2).size
 have HP3:=hide hP
 clear CP HB2 HV2 hW2 hX hP b3
 go_wp2
 go_loopw [30] (fun iv wr=>∃(k:Nat) (v0 v1 v2:Value),k<=3/\iv=.int .i64 (k:Int)/\fM wr X [v0,v1,v2] 161/\qA wr k q N (cs xs ys) v0 v1 v2/\en wr W2.heap.size L 3 ((k:Int)*1099511627776) a0 a1 a2/\Below w1.heap.size w1 wr) (fun iv _=>3-(intOf iv).toNat)
 case atStart=>exact⟨0,_,_,_,by decide,rfl,ae V3,qA.start _ _ _ _,ae HP3,ae B3⟩
 case round=>
  clear V3 HP3 B3
  obtain⟨k,v0,v1,v2,hk,rfl,hV,hW,hP,hb⟩:=hrel
  have hk4:k=0\/k=1\/k=2\/k=3:=by omega
  clear hk
  rcases hk4 with rfl|rfl|rfl|rfl
  ·obtain⟨gt,ha,P⟩:=hP.1 (by decide)
   subst ha
   have hix:=wt
   have c0:wr.cell? ⟨X,0,none⟩=some v0:=hV.cell 0 (by simp)
   have CC:=hide (kV (j:=0) P (by decide) N q (ae HN) ga gb b o cap b' o' cap' la lb xs ys hl ((ae HR1).next hb) hl' ((ae HR1').next hb) ha hb0 hq0 hqN (by omega) (by decide))
   have HV:=hide hV
   have HW:=hide hW
   have HP:=hide hP
   have HB:=hide hb
   clear P hV hW hP hb c0
   go_wp2_with fail
   refine(ae CC).mono ?_
   rintro e w5 ⟨v,rfl,hr,kk,s1,l1,m1,s2,l2,m2,hM,hM',hTT,p0,p1,pk⟩
   have sl:=hr.sl
   have V5:fM w5 X [v0,v1,v2] 161:=(ae HV).but hTT.grown (by
    rintro rfl
    have c:=(ae HV).cell 0 (by simp)
    rw[hM.c0]at c
    obtain⟨_,_,_,e⟩:=(ae HW).s0
    subst e
    injection c with c
    cases c)
   have q0:w5.cell? ⟨X,0,none⟩=some v0:=V5.cell 0 (by simp)
   have cv:w5.cell? ⟨X,0,none⟩=some v0:=V5.cell 0 (by simp)
   have fv:=V5.frozen 0
   have B5:=(ae HB).grown hTT.grown (ae HB).size (fun k hk=>by cases hk;exact Nat.le_trans (ae hsz2) pk)
   have W5:=((ae HW).touch hq1 hM hTT).one hr
   have P5:=(ae HP).spent (ae HL1) hM hM' hTT p0 p1 (by decide)
   have V7:Hid (fM (w5.setCell ⟨X,0,none⟩ v) X (([v0,v1,v2]:List Value).set 0 v) 161):=V5.set 0 v
   have B7:=hide (B5.setCell (p:=⟨X,0,none⟩) (ae WX) v)
   have W7:=hide (W5.box hq1 (ae HW).s0 q0 (aj w5 X 0 v))
   have P7:=hide (P5.rows (ae HL1) (ae HW).s0 q0 (aj w5 X 0 v))
   clear hr hM hM' hTT p0 p1 pk V5 q0 B5 W5 P5 CC HV HW HP HB
   obtain⟨sa,sn,sc,rfl⟩:=sl
   go_wp2
   go_roundw
   case rel=>exact⟨1,_,_,_,by decide,rfl,ae V7,ae W7,ae P7,ae B7⟩
   case measure=>simp[intOf]
  ·obtain⟨gt,ha,P⟩:=hP.2.1 (by decide)
   subst ha
   have hix:=wu
   have c0:wr.cell? ⟨X,0,none⟩=some v0:=hV.cell 0 (by simp)
   have CC:=hide (kV (j:=1) P (by decide) N q (ae HN) ga gb b o cap b' o' cap' la lb xs ys hl ((ae HR1).next hb) hl' ((ae HR1').next hb) ha hb0 hq0 hqN (by omega) (by decide))
   have HV:=hide hV
   have HW:=hide hW
   have HP:=hide hP
   have HB:=hide hb
   clear P hV hW hP hb c0
   go_wp2_with fail
   refine(ae CC).mono ?_
   rintro e w5 ⟨v,rfl,hr,kk,s1,l1,m1,s2,l2,m2,hM,hM',hTT,p0,p1,pk⟩
   have sl:=hr.sl
   have V5:fM w5 X [v0,v1,v2] 161:=(ae HV).but hTT.grown (by
    rintro rfl
    have c:=(ae HV).cell 0 (by simp)
    rw[hM.c0]at c
    obtain⟨_,_,_,e⟩:=(ae HW).s0
    subst e
    injection c with c
    cases c)
   have q0:w5.cell? ⟨X,0,none⟩=some v0:=V5.cell 0 (by simp)
   have cv:w5.cell? ⟨X,1,none⟩=some v1:=V5.cell 1 (by simp)
   have fv:=V5.frozen 1
   have B5:=(ae HB).grown hTT.grown (ae HB).size (fun k hk=>by cases hk;exact Nat.le_trans (ae hsz2) pk)
   have W5:=((ae HW).touch hq1 hM hTT).two hr
   have P5:=(ae HP).spent (ae HL1) hM hM' hTT p0 p1 (by decide)
   have V7:Hid (fM (w5.setCell ⟨X,1,none⟩ v) X (([v0,v1,v2]:List Value).set 1 v) 161):=V5.set 1 v
   have B7:=hide (B5.setCell (p:=⟨X,1,none⟩) (ae WX) v)
   have W7:=hide (W5.box hq1 (ae HW).s0 q0 (aj w5 X 1 v))
   have P7:=hide (P5.rows (ae HL1) (ae HW).s0 q0 (aj w5 X 1 v))
   clear hr hM hM' hTT p0 p1 pk V5 q0 B5 W5 P5 CC HV HW HP HB
   obtain⟨sa,sn,sc,rfl⟩:=sl
   go_wp2
   go_roundw
   case rel=>exact⟨2,_,_,_,by decide,rfl,ae V7,ae W7,ae P7,ae B7⟩
   case measure=>simp[intOf]
  ·obtain⟨gt,ha,P⟩:=hP.2.2 (by decide)
   subst ha
   have hix:=wv
   have c0:wr.cell? ⟨X,0,none⟩=some v0:=hV.cell 0 (by simp)
   have CC:=hide (kV (j:=2) P (by decide) N q (ae HN) ga gb b o cap b' o' cap' la lb xs ys hl ((ae HR1).next hb) hl' ((ae HR1').next hb) ha hb0 hq0 hqN (by omega) (by decide))
   have HV:=hide hV
   have HW:=hide hW
   have HP:=hide hP
   have HB:=hide hb
   clear P hV hW hP hb c0
   go_wp2_with fail
   refine(ae CC).mono ?_
   rintro e w5 ⟨v,rfl,hr,kk,s1,l1,m1,s2,l2,m2,hM,hM',hTT,p0,p1,pk⟩
   have sl:=hr.sl
   have V5:fM w5 X [v0,v1,v2] 161:=(ae HV).but hTT.grown (by
    rintro rfl
    have c:=(ae HV).cell 0 (by simp)
    rw[hM.c0]at c
    obtain⟨_,_,_,e⟩:=(ae HW).s0
    subst e
    injection c with c
    cases c)
   have q0:w5.cell? ⟨X,0,none⟩=some v0:=V5.cell 0 (by simp)
   have cv:w5.cell? ⟨X,2,none⟩=some v2:=V5.cell 2 (by simp)
   have fv:=V5.frozen 2
   have B5:=(ae HB).grown hTT.grown (ae HB).size (fun k hk=>by cases hk;exact Nat.le_trans (ae hsz2) pk)
   have W5:=((ae HW).touch hq1 hM hTT).three hr
   have P5:=(ae HP).spent (ae HL1) hM hM' hTT p0 p1 (by decide)
   have V7:Hid (fM (w5.setCell ⟨X,2,none⟩ v) X (([v0,v1,v2]:List Value).set 2 v) 161):=V5.set 2 v
   have B7:=hide (B5.setCell (p:=⟨X,2,none⟩) (ae WX) v)
   have W7:=hide (W5.box hq1 (ae HW).s0 q0 (aj w5 X 2 v))
   have P7:=hide (P5.rows (ae HL1) (ae HW).s0 q0 (aj w5 X 2 v))
   clear hr hM hM' hTT p0 p1 pk V5 q0 B5 W5 P5 CC HV HW HP HB
   obtain⟨sa,sn,sc,rfl⟩:=sl
   go_wp2
   go_roundw
   case rel=>exact⟨3,_,_,_,by decide,rfl,ae V7,ae W7,ae P7,ae B7⟩
   case measure=>simp[intOf]
  ·have CN:=hide (kJ hW (ae HTL) (by omega))
   have g0:wr.cell? ⟨X,0,none⟩=some v0:=hV.cell 0 (by simp)
   have g1:wr.cell? ⟨X,1,none⟩=some v1:=hV.cell 1 (by simp)
   have g2:wr.cell? ⟨X,2,none⟩=some v2:=hV.cell 2 (by simp)
   obtain⟨t0,n0,d0,rfl⟩:=(hW.r0 (by decide)).sl
   obtain⟨t1,n1,d1,rfl⟩:=(hW.r1 (by decide)).sl
   obtain⟨t2,n2,d2,rfl⟩:=(hW.r2 (by decide)).sl
   have HB:=hide hb
   clear hV hW hP hb
   go_wp2_with fail
   refine(ae CN).mono ?_
   rintro e w5 ⟨g,rfl,hg,hTri,b5⟩
   have b6:=ag (ae HB) b5
   have M6:=(ae HM1).next b6
   have T6:=(ae HT1).then b6 (ae HM1).lt
   have hgw:Hid (w.heap.size<=g):=by
    have h1:=(ae HT1).grown.size
    have h2:=(ae HB).size
    show _<=_
    omega
   clear CN g0 g1 g2 hg b5 b6
   go_wp2
   go_ret2
   exact⟨g,rfl,ae hgw,hTri,M6,T6⟩
end Go.Proofs.YtgcnhfgpflncaaaGreatDoor
/- Package conv:Words as the statements ask it,and Mul. -/
namespace Go.Proofs.YtgcnhfgpflncaaaGreatDoor
open Go.RowKit
set_option maxRecDepth 100000 in
set_option maxHeartbeats 1600000 in
theorem uX(w:World)(go oo:Nat)(s l m:Int)(ga gb:Option Addr)(b o cap la b' o' cap' lb:Nat)(xs ys:List Nat)(hT:TB w)(hM:Met w go oo s l m)(hs0:0<=s)(hs:s<=2305843009213693952)(hl:xs.length=la)(hR:Rep w ga b o cap xs)(dx:ao xs)(hl':ys.length=lb)(hR':Rep w gb b' o' cap' ys)(dy:ao ys)(ha:1<=la)(ha2:la<=16384)(hb:1<=lb)(hb2:lb<=16384):
  Calls Tryz.prog 148 #[.pointer (some ⟨go,oo,none⟩),.slice ga la cap,.slice gb lb cap'] w fun e w'=>∃ v,e=.returned (.tuple #[v,.bool true])/\ah w.heap.size w' v (af xs*af ys)/\Met w' go oo (s+(tf la lb 3:Int)) l m/\Touch go oo 3 w w':=by
 obtain⟨q,hq⟩:∃ q,q+1=la+lb:=⟨la+lb-1,by omega⟩
 have CW:=hide (Fg w go oo s l m ga gb b o cap la b' o' cap' lb q xs ys hT hM hs0 hs hl hR dx hl' hR' dy ha ha2 hb hb2 hq)
 have HE:=hide (vg (xs:=xs) (ys:=ys) (n:=q) (by omega))
 have CC:=hide (fun w g (h:g9 w g q (cs xs ys))=>qX w (some ⟨g,0,none⟩) g q q (cs xs ys) (by omega) (fun _=>rfl) (by omega) (Nat.le_refl _) h)
 rw[ae HE]at CC
 have HG:=hide hM.lt
 clear hT hM hR hR' HE hl hl' ha hb ha2 hb2 hq dx dy
 generalize af xs*af ys=V at *
 generalize cs xs ys=T at *
 generalize tf la lb 3=C at *
 go_enter Tryz.func148,Tryz.ntmps148
 go_wp2_with fail
 refine(ae CW).mono ?_
 rintro e w1 ⟨g,rfl,hg,hTri,M1,T1⟩
 have CC:=hide (ae CC _ _ hTri)
 have HM:=hide M1
 have HT:=hide T1
 clear CW hTri hg M1 T1
 go_wp2_with fail
 refine(ae CC).mono ?_
 rintro e w2 ⟨r,rfl,nr,b2⟩
 have M2:=(ae HM).next b2
 have T2:=(ae HT).then b2 (ae HM).lt
 have nr:=nr.mono (ae HT).grown.size
 clear CC b2
 go_wp2
 go_ret2
 exact⟨r,rfl,nr,M2,T2⟩
end Go.Proofs.YtgcnhfgpflncaaaGreatDoor
/- Package conv:a square by one transform less. -/
namespace Go.Proofs.YtgcnhfgpflncaaaGreatDoor
open Go.RowKit
set_option maxRecDepth 100000 in
set_option maxHeartbeats 6400000 in
theorem xG{w:World}{gt gm go gp p r L H:Nat}{s l m:Int}(P:PS w gt gm go 0 gp p r L H)(hM:Met w go 0 s l m)(N q:Nat)(hN:N=2^L)(ga:Option Addr)(b o cap la:Nat)(xs:List Nat)(hl:xs.length=la)(hR:Rep w ga b o cap xs)(_ha:1<=la)(hn:q+1=la+la)(hnN:q<=N)(hs0:0<=s)(hs:s<=2305843009213693952):
  Calls Tryz.prog 139 #[.pointer (some ⟨gt,0,none⟩),.slice ga la cap] w fun e w'=>∃ g,e=.returned (.slice (some ⟨g,0,none⟩) q N)/\w.heap.size<=g/\aB w' g (vk p r L (aR N xs) (aR N xs))/\Met w' go 0 (s+((2*(H*L)+N:Nat):Int)) l m/\Touch go 0 3 w w':=by
 have hNb:=aW P.low
 rw[<-hN]at hNb
 have CZ:=hide (size_any P hN)
 have hmk:=ou N N (N:Int) rfl rfl (by omega)
 obtain⟨k,hk⟩:∃ k,k=min N la:=⟨_,rfl⟩
 have hkl:k<=xs.length:=by omega
 have hR2:=hR.take k hkl
 have hyl:(xs.take k).length=k:=by simp;omega
 have e:aR N xs=xs.take k++List.replicate (N-k) 0:=by unfold aR;rw[hl, <-hk]
 have HC:=hide (fun ob=>iS hR2 ob)
 have HBK:Hid (∀ w',w'.heap[w.heap.size]?=some (.cells (splice (aF N) 0 (df (xs.take k))).toArray 41 (0,0))->aB w' w.heap.size (aR N xs)):=fun w' h=>by
  show _=_
  rw[e, <-pX (xs.take k) N k hyl (by omega)]
  exact h
 have hl1:=dZ N xs
 have hH:=P.half
 rw[<-hN]at hH
 have hKb:H*L<=20971520:=iD (by omega) P.low
 have hgl:=hM.lt
 have CF:Hid (∀ w',Below w.heap.size w w'->aB w' w.heap.size (aR N xs)->Calls Tryz.prog 169 #[.pointer (some ⟨gt,0,none⟩),.slice (some ⟨w.heap.size,0,none⟩) N N] w' fun e w''=>e=.returned (.tuple #[.slice (some ⟨w'.heap.size,0,none⟩) N N,.bool true])/\aB w'' w'.heap.size (jB p r (aR N xs))/\Met w'' go 0 (s+((H*L:Nat):Int)) l m/\Touch go 0 3 w' w''):=fun w' t B=>
  gQ (P.next t) (hM.next t) N hN _ w.heap.size 0 N _ hl1 (B.whole hl1) hs0 (by omega)
 have HW:Hid (∀ w',Touch go 0 3 w w'->PS w' gt gm go 0 gp p r L H):=fun w' t=>P.but t.grown
 have HI:Hid (∀ w' g (s':Int) (zs:List Nat),Touch go 0 3 w w'->Met w' go 0 s' l m->zs.length=N->aB w' g zs->0<=s'->s'<=4611686018427387904->Calls Tryz.prog 171 #[.pointer (some ⟨gt,0,none⟩),.slice (some ⟨g,0,none⟩) N N] w' fun e w''=>e=.returned (.tuple #[.slice (some ⟨w'.heap.size,0,none⟩) N N,.bool true])/\aB w'' w'.heap.size (vG p r L zs)/\Met w'' go 0 (s'+((H*L+N:Nat):Int)) l m/\Touch go 0 3 w' w''):=fun w' g s' zs t M hz hB h0 h1=>
  nG (P.but t.grown) M N hN (some ⟨g,0,none⟩) g 0 N zs hz (hB.whole hz) h0 h1
 have HCY:Hid (vk p r L (aR N xs) (aR N xs)=vG p r L ((List.range N).map fun i=>ml p ((jB p r (aR N xs)).getD i 0) ((jB p r (aR N xs)).getD i 0))):=by
  show _=_
  unfold vk vT
  rw[bJ,hl1]
 have hfx:(jB p r (aR N xs)).length=N:=by rw[bJ,hl1]
 have HCM:=hide (fun w' g (h:MW w' g p) x y=>mul_mod h x y)
 generalize vk p r L (aR N xs) (aR N xs)=Z at *
 generalize jB p r (aR N xs)=X at *
 generalize vG p r L=I at *
 generalize aR N xs=Y at *
 generalize H*L=K at *
 obtain⟨S,hS⟩:∃ S:Int,S=s+((2*K+N:Nat):Int):=⟨_,rfl⟩
 rw[<-hS]
 obtain⟨s1,hs1⟩:∃ s1:Int,s1=s+(K:Int):=⟨_,rfl⟩
 rw[<-hs1]at CF
 have r2:Hid (0<=s1/\s1<=4611686018427387904/\s1+((K+N:Nat):Int)=S):=by show _/\_;omega
 obtain⟨n2,hn2⟩:∃ n2,n2=la+la:=⟨_,rfl⟩
 have e1:2*(la:Int)=(n2:Int):=by omega
 have e2:IntKind.i64.wrap (n2:Int)=(n2:Int):=by rw[IntKind.wrap_i64];omega
 have e3:(n2:Int)-1=(q:Int):=by omega
 have e4:IntKind.i64.wrap (q:Int)=(q:Int):=by rw[IntKind.wrap_i64];omega
 have e5:(q:Int)<=(N:Int):=by omega
 generalize xs.take k=ys at *
 clear hR hR2 e hkl hN P hM hS hs1 hn2 hH hl hl1
 go_enter Tryz.func139,Tryz.ntmps139
 go_wp2_with fail
 refine(ae CZ).mono ?_
 rintro e w0 ⟨rfl,hw0⟩
 obtain rfl:=hw0.symm
 clear hw0 CZ
 go_wp2_with (refine wpList_copy_splice rfl _ _ 24 24 rfl 41 Tryz.underlying24 Tryz.sizeU _ _ N N la cap rfl rfl w.heap.size 0 (aF N) 41 ?h1 (df ys) ?h2 ?h3 ?h4 (cells_one _) w.heap.size w ?h5 (Nat.le_refl _) ?_)
 case h1=>exact heap_alloc_new w _
 case h2=>rw[aG,hyl];exact hk.trans (Nat.min_comm N la)
 case h3=>exact ae HC _
 case h4=>rw[aG,dr,hyl];omega
 case h5=>exact(Below.refl _ _).alloc (Nat.le_refl _) _
 intro w2 hblk hb2
 have hB2:=ae HBK _ hblk.out
 have CF:=hide (ae CF _ hb2 hB2)
 have HB2:=hide hb2
 have G2:Hid (go<w2.heap.size):=Nat.lt_of_lt_of_le hgl hb2.size
 have G3:Hid (w.heap.size<=w2.heap.size):=hb2.size
 clear hblk HC hmk HBK hb2 hB2
 go_wp2_with fail
 refine(ae CF).mono ?_
 rintro e w3 ⟨rfl,hB3,M3,T3⟩
 have T3:=hide (T3.after (ae HB2) hgl)
 obtain⟨G,hG⟩:∃ G,w2.heap.size=G:=⟨_,rfl⟩
 rw[hG]at hB3 G2 G3
 have hgG:Hid (go≠G):=by have:=ae G2;show _≠_;omega
 have B3:=hide hB3
 have M3:=hide M3
 clear CF hB3
 go_wp2
 clear hG
 go_loopw [24] (fun iv wr=>∃(k:Nat) (zs:List Nat),k<=N/\iv=.int .i64 (k:Int)/\Hid (eB (fun i=>ml p (X.getD i 0) (X.getD i 0)) X zs k)/\aB wr G zs/\Met wr go 0 s1 l m/\Touch go 0 3 w wr) (fun iv _=>N-(intOf iv).toNat)
 case atStart=>exact⟨0,X,Nat.zero_le _,rfl,fF _ X,ae B3,ae M3,ae T3⟩
 case round=>
  clear B3 M3 T3
  obtain⟨k,zs,hk,rfl,hV,hB,hM,hT⟩:=hrel
  have hzl:zs.length=N:=by rw[hV.out.1,hfx]
  by_cases h2:k<N
  ·have hk1:(k:Int)<(N:Int):=by omega
   obtain⟨x,hx⟩:∃ x,x=X.getD k 0:=⟨_,rfl⟩
   have cx:wr.cell? ⟨G,k,none⟩=some (.int .u64 (x:Int)):=by
    rw[hx, <-kn hV.out (by omega)]
    exact hB.cell k (by omega)
   have P5:=ae HW _ hT
   have c0:=P5.c0
   have CMm:=hide (ae HCM wr gm P5.mw x x)
   have hstep:Hid (eB (fun i=>ml p (X.getD i 0) (X.getD i 0)) X (zs.set k (ml p x x)) (k+1)):=by rw[hx];exact gV hV.out (by omega)
   have hmm:Hid (N-(k+1)<N-k):=by show _<_;omega
   have HB:=hide hB
   have HM:=hide hM
   have HT:=hide hT
   clear P5 hx hV hB hM hT
   generalize ml p x x=v at *
   go_wp2_with fail
   refine(ae CMm).mono ?_
   rintro e w6 ⟨rfl,b6⟩
   have hB6:=(ae HB).next b6
   have c6:=hB6.cell k (by omega)
   have f6:=hB6.frozen k
   have B7:=hide (hB6.set k v)
   have M7:=hide (((ae HM).next b6).but (aj _ G k (.int .u64 (v:Int))) (ae hgG))
   have T7:=hide (((ae HT).then b6 (ae HM).lt).fresh (aj _ G k (.int .u64 (v:Int))) hgl (ae G3))
   clear hB6 b6 c0 cx CMm HB HM HT
   go_wp2
   go_roundw
   case rel=>exact⟨k+1,_,by omega,by go_num,hstep,ae B7,ae M7,ae T7⟩
   case measure=>simp[intOf];have:=ae hmm;omega
  ·obtain rfl:k=N:=by omega
   have hme:=iZ (f:=fun i=>ml p (X.getD i 0) (X.getD i 0)) (z0:=X) (zs:=zs) (by rw[hfx];exact hV.out)
   rw[hfx]at hme
   have HZ:Hid (I zs=Z):=by show _=_;rw[ae HCY,hme]
   obtain⟨r21,r22,r23⟩:=ae r2
   have CI:=hide (ae HI _ G s1 zs hT hM hzl hB r21 r22)
   have R23:=hide r23
   have HT:=hide hT
   have hle:Hid (w.heap.size<=wr.heap.size):=hT.grown.size
   clear hV hme HCY r21 r22 r23 hB hM hT r2
   go_wp2_with fail
   refine(ae CI).mono ?_
   rintro e w8 ⟨rfl,hB8,M8,T8⟩
   rw[ae HZ]at hB8
   rw[ae R23]at M8
   have T9:=(ae HT).trans T8
   clear CI T8 R23 HZ
   go_wp2
   go_ret
   exact⟨wr.heap.size,rfl,ae hle,hB8,M8,T9⟩
theorem jg{w:World}{B L j gt:Nat}{S:Int}(hP:nY w B L (zD j) gt S)(hj:j<3)(N q:Nat)(hN:N=2^L)(ga:Option Addr)(b o cap la:Nat)(xs:List Nat)(hl:xs.length=la)(hR:Rep w ga b o cap xs)(ha:1<=la)(hn:q+1=la+la)(hnN:q<=N)(hL2:L<=20)(hS:S<=109951162777600):
  Calls Tryz.prog 139 #[.pointer (some ⟨gt,0,none⟩),.slice ga la cap] w fun e w'=>∃ v,e=.returned v/\kD w' (zD j) q N (cs xs xs) v/\(∃ k s l m s' l' m',Met w k 0 s l m/\Met w' k 0 s' l' m'/\Touch k 0 3 w w'/\0<=s'/\s'<=S+1099511627776/\B<=k):=by
 obtain⟨r,gm,go,gp,H,s1,l1,m1,P,M,a0,a1,a2⟩:=hP
 have hNb:=aW P.low
 rw[<-hN]at hNb
 have hHb:H<=1048576:=by have:=P.half;rw[<-hN]at this;omega
 have hsp:=iD hHb P.low
 refine(xG P M N q hN ga b o cap la xs hl hR ha hn hnN a0 (by omega)).mono ?_
 rintro e w' ⟨g,rfl,hg,hB,M',T'⟩
 have hp:=P.mw.low
 have hlen:=kW (zD j) r L (aR N xs) (aR N xs)
 rw[<-hN]at hlen
 refine⟨_,rfl,⟨g,_,rfl,hB,by rw[hlen];exact hnN,hlen,fun i hi=>?_⟩,go,s1,l1,m1,_,l1,m1,M,M',T',?_,?_,a2⟩
 ·have hc:=vm (n:=q) (xs:=xs) (ys:=xs) (by omega) P.rt (AW hj hL2) (by omega) (by omega) (by omega) (by rw[<-hN];exact hnN)
  rw[<-hN]at hc
  rw[<-take_at _ hi,hc]
  exact zZ (by omega) (by omega) hi
 ·omega
 ·omega
end Go.Proofs.YtgcnhfgpflncaaaGreatDoor
/- Package conv:Sqr. -/
namespace Go.Proofs.YtgcnhfgpflncaaaGreatDoor
open Go.RowKit
set_option maxRecDepth 100000 in
set_option maxHeartbeats 6400000 in
theorem ve(w:World)(go oo:Nat)(s l m:Int)(ga:Option Addr)(b o cap la:Nat)(xs:List Nat)(hT:TB w)(hM:Met w go oo s l m)(hs0:0<=s)(hs:s<=2305843009213693952)(hl:xs.length=la)(hR:Rep w ga b o cap xs)(dx:ao xs)(ha:1<=la)(ha2:la<=16384):
  Calls Tryz.prog 103 #[.pointer (some ⟨go,oo,none⟩),.slice ga la cap] w fun e w'=>∃ v,e=.returned (.tuple #[v,.bool true])/\ah w.heap.size w' v (af xs*af xs)/\Met w' go oo (s+(tf la la 2:Int)) l m/\Touch go oo 3 w w':=by
 obtain⟨q,hq⟩:∃ q,q+1=la+la:=⟨la+la-1,by omega⟩
 have HE:=hide (vg (xs:=xs) (ys:=xs) (n:=q) (by omega))
 have CC:=hide (fun w g (h:g9 w g q (cs xs xs))=>qX w (some ⟨g,0,none⟩) g q q (cs xs xs) (by omega) (fun _=>rfl) (by omega) (Nat.le_refl _) h)
 rw[ae HE]at CC
 clear HE
 generalize af xs*af xs=V at *
 obtain⟨n,hn⟩:∃ n,n=la+la:=⟨_,rfl⟩
 obtain⟨L,hL⟩:∃ L,L=Lib.bitLen (n-1):=⟨_,rfl⟩
 obtain⟨L1,L2,_,L4⟩:=eG 15 (n-1) (by omega) (by omega) (by omega)
 rw[<-hL]at L1 L2 L4
 obtain⟨N,hN⟩:∃ N,N=2^L:=⟨_,rfl⟩
 rw[<-hN]at L4
 have hqN:q<=N:=by omega
 have CF:=hide (fun w=>Ag la la w ha ha (by omega))
 have CT:=hide (fun w=>Jk la la 2 w ha ha2 ha ha2 (by decide))
 have htf:=Nx la la 2 ha ha2 ha ha2 (by decide)
 have CS:=hide (dn (tf la la 2:Int) (s+(tf la la 2:Int)) hM (by omega) (by omega) (by omega))
 have CP:=hide (fun w hT=>rN w n L (by omega) (by omega) hL (by omega) hT)
 have HT:=hide (fun w' (t:Touch go oo 3 w w')=>(hT.touch hM t))
 have HR:=hide (fun w' (t:Touch go oo 3 w w')=>(hR.touch hM t))
 have e1:2*(la:Int)=(n:Int):=by omega
 have e2:IntKind.i64.wrap (n:Int)=(n:Int):=by rw[IntKind.wrap_i64];omega
 generalize tf la la 2=C at *
 have HN:=hide hN
 have HTL:Hid (∀ k,cs xs xs k<dN*dC*bR):=fun k=>MV dx dx (by omega) k
 have HL1:=hide L1
 have hq1:1<=q:=by omega
 have hq0:=hq
 clear hM hT hR hN hL hn htf
 go_enter Tryz.func103,Tryz.ntmps103
 go_wp2_with fail
 refine(ae CF _).mono ?_
 rintro e w1 ⟨rfl,hw⟩
 obtain rfl:=hw.symm
 clear hw CF
 go_wp2_with fail
 refine(ae CT _).mono ?_
 rintro e w1 ⟨rfl,hw⟩
 obtain rfl:=hw.symm
 clear hw CT
 go_wp2_with fail
 refine(ae CS).mono ?_
 rintro e w1 ⟨rfl,M1,T1⟩
 have hT1:=ae HT _ T1
 have R1:=ae HR _ T1
 have b2:Below w1.heap.size w1 (w1.alloc (.cells #[.slice none 0 0,.slice none 0 0,.slice none 0 0] 161)):=(Below.refl _ _).alloc (Nat.le_refl _) _
 have V2:fM (w1.alloc (.cells #[.slice none 0 0,.slice none 0 0,.slice none 0 0] 161)) w1.heap.size [.slice none 0 0,.slice none 0 0,.slice none 0 0] 161:=heap_alloc_new w1 _
 obtain⟨W2,hW2⟩:∃ W2,w1.alloc (.cells #[.slice none 0 0,.slice none 0 0,.slice none 0 0] 161)=W2:=⟨_,rfl⟩
 rw[hW2]at b2 V2
 obtain⟨X,hX⟩:∃ X,w1.heap.size=X:=⟨_,rfl⟩
 rw[hX]at V2
 have CP:=hide (ae CP W2 (hT1.next b2))
 have WX:Hid (w1.heap.size<=X):=Nat.le_of_eq hX
 have HB2:=hide b2
 have HV2:=hide V2
 have HM1:=hide M1
 have HT1:=hide T1
 have HR1:=hide R1
 clear CS HT HR M1 T1 hT1 R1 b2 V2
 go_wp2_with fail
 refine(ae CP).mono ?_
 rintro e w3 ⟨a0,a1,a2,rfl,hP,b3⟩
 have B3:=hide (ag (ae HB2) b3)
 have V3:=hide ((ae HV2).next b3)
 have hsz2:Hid (w1.heap.size<=W2.heap.size):=(ae HB2).size
 have HP3:=hide hP
 clear CP HB2 HV2 hW2 hX hP b3
 go_wp2
 go_loopw [26] (fun iv wr=>∃(k:Nat) (v0 v1 v2:Value),k<=3/\iv=.int .i64 (k:Int)/\fM wr X [v0,v1,v2] 161/\qA wr k q N (cs xs xs) v0 v1 v2/\en wr W2.heap.size L 3 ((k:Int)*1099511627776) a0 a1 a2/\Below w1.heap.size w1 wr) (fun iv _=>3-(intOf iv).toNat)
 case atStart=>exact⟨0,_,_,_,by decide,rfl,ae V3,qA.start _ _ _ _,ae HP3,ae B3⟩
 case round=>
  clear V3 HP3 B3
  obtain⟨k,v0,v1,v2,hk,rfl,hV,hW,hP,hb⟩:=hrel
  have hk4:k=0\/k=1\/k=2\/k=3:=by omega
  clear hk
  rcases hk4 with rfl|rfl|rfl|rfl
  ·obtain⟨gt,ha,P⟩:=hP.1 (by decide)
   subst ha
   have hix:=wt
   have c0:wr.cell? ⟨X,0,none⟩=some v0:=hV.cell 0 (by simp)
   have CC:=hide (jg (j:=0) P (by decide) N q (ae HN) ga b o cap la xs hl ((ae HR1).next hb) ha hq0 hqN (by omega) (by decide))
   have HV:=hide hV
   have HW:=hide hW
   have HP:=hide hP
   have HB:=hide hb
   clear P hV hW hP hb c0
   go_wp2_with fail
   refine(ae CC).mono ?_
   rintro e w5 ⟨v,rfl,hr,kk,s1,l1,m1,s2,l2,m2,hM,hM',hTT,p0,p1,pk⟩
   have sl:=hr.sl
   have V5:fM w5 X [v0,v1,v2] 161:=(ae HV).but hTT.grown (by
    rintro rfl
    have c:=(ae HV).cell 0 (by simp)
    rw[hM.c0]at c
    obtain⟨_,_,_,e⟩:=(ae HW).s0
    subst e
    injection c with c
    cases c)
   have q0:w5.cell? ⟨X,0,none⟩=some v0:=V5.cell 0 (by simp)
   have cv:w5.cell? ⟨X,0,none⟩=some v0:=V5.cell 0 (by simp)
   have fv:=V5.frozen 0
   have B5:=(ae HB).grown hTT.grown (ae HB).size (fun k hk=>by cases hk;exact Nat.le_trans (ae hsz2) pk)
   have W5:=((ae HW).touch hq1 hM hTT).one hr
   have P5:=(ae HP).spent (ae HL1) hM hM' hTT p0 p1 (by decide)
   have V7:Hid (fM (w5.setCell ⟨X,0,none⟩ v) X (([v0,v1,v2]:List Value).set 0 v) 161):=V5.set 0 v
   have B7:=hide (B5.setCell (p:=⟨X,0,none⟩) (ae WX) v)
   have W7:=hide (W5.box hq1 (ae HW).s0 q0 (aj w5 X 0 v))
   have P7:=hide (P5.rows (ae HL1) (ae HW).s0 q0 (aj w5 X 0 v))
   clear hr hM hM' hTT p0 p1 pk V5 q0 B5 W5 P5 CC HV HW HP HB
   obtain⟨sa,sn,sc,rfl⟩:=sl
   go_wp2
   go_roundw
   case rel=>exact⟨1,_,_,_,by decide,rfl,ae V7,ae W7,ae P7,ae B7⟩
   case measure=>simp[intOf]
  ·obtain⟨gt,ha,P⟩:=hP.2.1 (by decide)
   subst ha
   have hix:=wu
   have c0:wr.cell? ⟨X,0,none⟩=some v0:=hV.cell 0 (by simp)
   have CC:=hide (jg (j:=1) P (by decide) N q (ae HN) ga b o cap la xs hl ((ae HR1).next hb) ha hq0 hqN (by omega) (by decide))
   have HV:=hide hV
   have HW:=hide hW
   have HP:=hide hP
   have HB:=hide hb
   clear P hV hW hP hb c0
   go_wp2_with fail
   refine(ae CC).mono ?_
   rintro e w5 ⟨v,rfl,hr,kk,s1,l1,m1,s2,l2,m2,hM,hM',hTT,p0,p1,pk⟩
   have sl:=hr.sl
   have V5:fM w5 X [v0,v1,v2] 161:=(ae HV).but hTT.grown (by
    rintro rfl
    have c:=(ae HV).cell 0 (by simp)
    rw[hM.c0]at c
    obtain⟨_,_,_,e⟩:=(ae HW).s0
    subst e
    injection c with c
    cases c)
   have q0:w5.cell? ⟨X,0,none⟩=some v0:=V5.cell 0 (by simp)
   have cv:w5.cell? ⟨X,1,none⟩=some v1:=V5.cell 1 (by simp)
   have fv:=V5.frozen 1
   have B5:=(ae HB).grown hTT.grown (ae HB).size (fun k hk=>by cases hk;exact Nat.le_trans (ae hsz2) pk)
   have W5:=((ae HW).touch hq1 hM hTT).two hr
   have P5:=(ae HP).spent (ae HL1) hM hM' hTT p0 p1 (by decide)
   have V7:Hid (fM (w5.setCell ⟨X,1,none⟩ v) X (([v0,v1,v2]:List Value).set 1 v) 161):=V5.set 1 v
   have B7:=hide (B5.setCell (p:=⟨X,1,none⟩) (ae WX) v)
   have W7:=hide (W5.box hq1 (ae HW).s0 q0 (aj w5 X 1 v))
   have P7:=hide (P5.rows (ae HL1) (ae HW).s0 q0 (aj w5 X 1 v))
   clear hr hM hM' hTT p0 p1 pk V5 q0 B5 W5 P5 CC HV HW HP HB
   obtain⟨sa,sn,sc,rfl⟩:=sl
   go_wp2
   go_roundw
   case rel=>exact⟨2,_,_,_,by decide,rfl,ae V7,ae W7,ae P7,ae B7⟩
   case measure=>simp[intOf]
  ·obtain⟨gt,ha,P⟩:=hP.2.2 (by decide)
   subst ha
   have hix:=wv
   have c0:wr.cell? ⟨X,0,none⟩=some v0:=hV.cell 0 (by simp)
   have CC:=hide (jg (j:=2) P (by decide) N q (ae HN) ga b o cap la xs hl ((ae HR1).next hb) ha hq0 hqN (by omega) (by decide))
   have HV:=hide hV
   have HW:=hide hW
   have HP:=hide hP
   have HB:=hide hb
   clear P hV hW hP hb c0
   go_wp2_with fail
   refine(ae CC).mono ?_
   rintro e w5 ⟨v,rfl,hr,kk,s1,l1,m1,s2,l2,m2,hM,hM',hTT,p0,p1,pk⟩
   have sl:=hr.sl
   have V5:fM w5 X [v0,v1,v2] 161:=(ae HV).but hTT.grown (by
    rintro rfl
    have c:=(ae HV).cell 0 (by simp)
    rw[hM.c0]at c
    obtain⟨_,_,_,e⟩:=(ae HW).s0
    subst e
    injection c with c
    cases c)
   have q0:w5.cell? ⟨X,0,none⟩=some v0:=V5.cell 0 (by simp)
   have cv:w5.cell? ⟨X,2,none⟩=some v2:=V5.cell 2 (by simp)
   have fv:=V5.frozen 2
   have B5:=(ae HB).grown hTT.grown (ae HB).size (fun k hk=>by cases hk;exact Nat.le_trans (ae hsz2) pk)
   have W5:=((ae HW).touch hq1 hM hTT).three hr
   have P5:=(ae HP).spent (ae HL1) hM hM' hTT p0 p1 (by decide)
   have V7:Hid (fM (w5.setCell ⟨X,2,none⟩ v) X (([v0,v1,v2]:List Value).set 2 v) 161):=V5.set 2 v
   have B7:=hide (B5.setCell (p:=⟨X,2,none⟩) (ae WX) v)
   have W7:=hide (W5.box hq1 (ae HW).s0 q0 (aj w5 X 2 v))
   have P7:=hide (P5.rows (ae HL1) (ae HW).s0 q0 (aj w5 X 2 v))
   clear hr hM hM' hTT p0 p1 pk V5 q0 B5 W5 P5 CC HV HW HP HB
   obtain⟨sa,sn,sc,rfl⟩:=sl
   go_wp2
   go_roundw
   case rel=>exact⟨3,_,_,_,by decide,rfl,ae V7,ae W7,ae P7,ae B7⟩
   case measure=>simp[intOf]
  ·have CN:=hide (kJ hW (ae HTL) (by omega))
   have g0:wr.cell? ⟨X,0,none⟩=some v0:=hV.cell 0 (by simp)
   have g1:wr.cell? ⟨X,1,none⟩=some v1:=hV.cell 1 (by simp)
   have g2:wr.cell? ⟨X,2,none⟩=some v2:=hV.cell 2 (by simp)
   obtain⟨t0,n0,d0,rfl⟩:=(hW.r0 (by decide)).sl
   obtain⟨t1,n1,d1,rfl⟩:=(hW.r1 (by decide)).sl
   obtain⟨t2,n2,d2,rfl⟩:=(hW.r2 (by decide)).sl
   have HB:=hide hb
   clear hV hW hP hb
   go_wp2_with fail
   refine(ae CN).mono ?_
   rintro e w5 ⟨g,rfl,hg,hTri,b5⟩
   have B6:=hide (ag (ae HB) b5)
   have CC:=hide (ae CC _ _ hTri)
   clear CN g0 g1 g2 hg b5 hTri HB
   go_wp2_with fail
   refine(ae CC).mono ?_
   rintro e w6 ⟨r,rfl,nr,b6⟩
   have b7:=ag (ae B6) b6
   have M6:=(ae HM1).next b7
   have T6:=(ae HT1).then b7 (ae HM1).lt
   have nr:=nr.mono (Nat.le_trans (ae HT1).grown.size (ae B6).size)
   clear CC b6 b7
   go_wp2
   go_ret2
   exact⟨r,rfl,nr,M6,T6⟩
end Go.Proofs.YtgcnhfgpflncaaaGreatDoor
