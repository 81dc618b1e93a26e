/- Package modw: a modulus, and its plain calls. -/
import Derived.Test.YtgcnhfgpflncaaaGreatDoorB1
import Derived.Test.YtgcnhfgpflncaaaGreatDoorB29
import Derived.Test.YtgcnhfgpflncaaaGreatDoorB8
import Derived.RegionTactic
namespace Go.Proofs.YtgcnhfgpflncaaaGreatDoor
open Go.RowKit
structure MW(w:World)(g p:Nat):Prop where
 c0:w.cell? ⟨g,0,none⟩=some (.int .u64 (p:Int))
 c1:w.cell? ⟨g,1,none⟩=some (.int .u64 (ig p:Int))
 c2:w.cell? ⟨g,2,none⟩=some (.int .u64 ((18446744073709551616*18446744073709551616%p:Nat):Int))
 odd:p%2=1
 low:3<=p
 high:p<4611686018427387904
theorem MW.lt{w:World}{g p:Nat}(h:MW w g p):g<w.heap.size:=World.block_lt_of_cell? _ _ h.c0
theorem MW.next{w w':World}{g p:Nat}(h:MW w g p)(hb:Below w.heap.size w w'):MW w' g p:=
 ⟨(hb.cell (p:=⟨g,0,none⟩) h.lt).trans h.c0,(hb.cell (p:=⟨g,1,none⟩) h.lt).trans h.c1,(hb.cell (p:=⟨g,2,none⟩) h.lt).trans h.c2,h.odd,h.low,h.high⟩
theorem uB{x:Int}{n:Nat}(h:x%18446744073709551616=(n:Int)):IntKind.u64.wrap x=(n:Int):=by
 rw[IntKind.wrap_u64];exact h
set_option maxHeartbeats 800000 in
theorem qD(p:Nat)(w:World)(hp:p<18446744073709551616):
  Calls Tryz.prog 210 #[.int .u64 (p:Int)] w fun e w'=>e=.returned (.int .u64 (ig p:Int))/\w'=w:=by
 have HS:Hid (∀ k x y:Nat,x=p*pr p k%18446744073709551616->y=(18446744073709551618-x)%18446744073709551616->IntKind.u64.wrap ((p:Int)*(pr p k:Nat))=(x:Int)/\IntKind.u64.wrap (2-(x:Int))=(y:Int)/\IntKind.u64.wrap ((pr p k:Int)*(y:Int))=(pr p (k+1):Int)):=by
  intro k x y hx hy
  have hxl:x<18446744073709551616:=by rw[hx];exact Nat.mod_lt _ (by omega)
  refine⟨uB ?_,uB ?_,uB ?_⟩
  ·rw[<-Int.natCast_mul,hx];rfl
  ·rw[hy];omega
  ·rw[<-Int.natCast_mul]
   show _=((pZ p (pr p k):Nat):Int)
   unfold pZ
   rw[<-hx, <-hy];rfl
 have HL:=hide (Ai hp)
 have HI:Hid (ig p=pr p 5):=rfl
 generalize ig p=I at *
 have h0:pr p 0=p:=rfl
 have H0:=hide h0
 clear h0
 generalize pr p=F at *
 go_enter Tryz.func210,Tryz.ntmps210
 go_wp2
 go_loopw [3,4] (fun v r wr=>∃(k x y R f:Nat),k<=5/\v=.int .u64 (f:Int)/\r=.int .i64 (R:Int)/\Hid (f=F k)/\(k=0/\R=3\/k=1/\R=6\/k=2/\R=12\/k=3/\R=24\/k=4/\R=48\/k=5/\R=96)/\Hid (x=p*F k%18446744073709551616)/\Hid (y=(18446744073709551618-x)%18446744073709551616)/\wr=w) (fun _ r _=>96-(intOf r).toNat)
 case atStart=>exact⟨0,_,_,3,p,by omega,rfl,rfl,(ae H0).symm,by omega,rfl,rfl,rfl⟩
 case round=>
  obtain⟨k,x,y,R,f,hk,rfl,rfl,hf,hR,hx,hy,rfl⟩:=hrel
  by_cases h5:k=5
  ·have hR:R=96:=by omega
   subst hR
   have hfI:f=I:=by rw[hf.out,ae HI,h5]
   subst hfI
   clear hf
   go_wp2
   go_ret
   exact⟨ax rfl,rfl⟩
  ·obtain⟨e1,e2,e3⟩:=ae HS k x y hx.out hy.out
   obtain⟨R2,hR2⟩:∃ R2,R2=R+R:=⟨_,rfl⟩
   have hRi:(R:Int)*2=(R2:Int):=by omega
   have hRw:IntKind.i64.wrap (R2:Int)=(R2:Int):=by rw[IntKind.wrap_i64];omega
   have hlt:(R:Int)<64:=by omega
   have hm:Hid (96-R2<96-R):=by show _<_;omega
   have hR3:Hid (k+1=0/\R2=3\/k+1=1/\R2=6\/k+1=2/\R2=12\/k+1=3/\R2=24\/k+1=4/\R2=48\/k+1=5/\R2=96):=by show _\/_;omega
   rw[<-hf.out]at e1 e3
   obtain⟨f2,hf2⟩:∃ f2,f2=F (k+1):=⟨_,rfl⟩
   rw[<-hf2]at e3
   have HF2:=hide hf2
   clear hf hR hf2 hR2
   go_wp2
   go_roundw
   case rel=>exact⟨k+1,_,_,R2,f2,by omega,rfl,by go_num,HF2,ae hR3,rfl,rfl,by first|rfl|trivial⟩
   case measure=>simp[intOf];exact ae hm
theorem mB(a b:Nat):(a:Int).tmod (b:Int)=((a%b:Nat):Int):=rfl
set_option maxHeartbeats 800000 in
theorem jG{w:World}{g p:Nat}(h:MW w g p):
  Calls Tryz.prog 200 #[.pointer (some ⟨g,0,none⟩)] w fun e w'=>e=.returned (.int .u64 (p:Int))/\w'=w:=by
 have c0:=h.c0
 clear h
 go_enter Tryz.func200,Tryz.ntmps200
 go_wp2
 go_ret
 exact⟨rfl,rfl⟩
set_option maxHeartbeats 800000 in
theorem je{w:World}{g p:Nat}(h:MW w g p)(a:Nat):
  Calls Tryz.prog 192 #[.pointer (some ⟨g,0,none⟩),.int .u64 (a:Int)] w fun e w'=>e=.returned (.int .u64 (rd p a:Int))/\w'=w:=by
 have c0:=h.c0
 have hl:=h.low
 clear h
 by_cases hlt:a<p
 ·have e:rd p a=a:=Nat.mod_eq_of_lt hlt
  rw[e]
  clear e
  have hi:(a:Int)<(p:Int):=by omega
  go_enter Tryz.func192,Tryz.ntmps192
  go_wp2
  go_ret
  exact⟨ax rfl,rfl⟩
 ·have hi:¬(a:Int)<(p:Int):=by omega
  have hm:(a:Int).tmod (p:Int)=(rd p a:Int):=mB a p
  have hz:¬(p:Int)=0:=by omega
  clear hlt
  generalize rd p a=r at *
  go_enter Tryz.func192,Tryz.ntmps192
  go_wp2
  go_ret
  exact⟨ax rfl,rfl⟩
set_option maxHeartbeats 1600000 in
theorem add_mod{w:World}{g p:Nat}(h:MW w g p)(a b:Nat):
  Calls Tryz.prog 212 #[.pointer (some ⟨g,0,none⟩),.int .u64 (a:Int),.int .u64 (b:Int)] w fun e w'=>e=.returned (.int .u64 (ad p a b:Int))/\w'=w:=by
 have h1:rd p a<p:=Nat.mod_lt _ (by have:=h.low;omega)
 have h2:rd p b<p:=Nat.mod_lt _ (by have:=h.low;omega)
 have hc:(rd p a+rd p b<p/\ad p a b=rd p a+rd p b)\/(p<=rd p a+rd p b/\ad p a b+p=rd p a+rd p b):=by
  by_cases hs:rd p a+rd p b<p
  ·exact .inl ⟨hs,JU hs⟩
  ·have:ad p a b=rd p a+rd p b-p:=Pg (by omega) (Nat.le_of_not_lt hs)
   exact .inr ⟨by omega,by omega⟩
 have hp:=h.high
 have o0:=h.c0
 have C1:=hide (fun x=>je h x)
 clear h
 generalize ad p a b=z at *
 generalize rd p=R at *
 obtain⟨S,hS⟩:∃ S,S=R a+R b:=⟨_,rfl⟩
 have hSi:(R a:Int)+(R b:Int)=(S:Int):=by omega
 have hSw:IntKind.u64.wrap (S:Int)=(S:Int):=by rw[IntKind.wrap_u64];omega
 rcases hc with⟨hc,hz⟩|⟨hc,hz⟩
 ·have hzz:(S:Int)=(z:Int):=by omega
  have hlt:¬(p:Int)<=(S:Int):=by omega
  have HZ:=hide hzz
  clear hc hz hzz hS
  go_enter Tryz.func212,Tryz.ntmps212
  go_wp2_with fail
  refine(ae C1 a).mono ?_
  rintro e w1 ⟨rfl,rfl⟩
  go_wp2_with fail
  refine(ae C1 b).mono ?_
  rintro e w1 ⟨rfl,rfl⟩
  go_wp2
  go_ret
  exact⟨ax (ae HZ),rfl⟩
 ·have hzz:(S:Int)-(p:Int)=(z:Int):=by omega
  have hzw:IntKind.u64.wrap (z:Int)=(z:Int):=by rw[IntKind.wrap_u64];omega
  have hlt:(p:Int)<=(S:Int):=by omega
  clear hc hz hS
  go_enter Tryz.func212,Tryz.ntmps212
  go_wp2_with fail
  refine(ae C1 a).mono ?_
  rintro e w1 ⟨rfl,rfl⟩
  go_wp2_with fail
  refine(ae C1 b).mono ?_
  rintro e w1 ⟨rfl,rfl⟩
  go_wp2
  go_ret
  exact⟨ax rfl,rfl⟩
set_option maxHeartbeats 1600000 in
theorem jh{w:World}{g p:Nat}(h:MW w g p)(a b:Nat):
  Calls Tryz.prog 198 #[.pointer (some ⟨g,0,none⟩),.int .u64 (a:Int),.int .u64 (b:Int)] w fun e w'=>e=.returned (.int .u64 (sb p a b:Int))/\w'=w:=by
 have hl:=h.low
 have h1:rd p a<p:=Nat.mod_lt _ (by omega)
 have h2:rd p b<p:=Nat.mod_lt _ (by omega)
 have hc:(rd p a<rd p b/\sb p a b+rd p b=rd p a+p)\/(rd p b<=rd p a/\sb p a b+rd p b=rd p a):=by
  by_cases hs:rd p a<rd p b
  ·have:sb p a b=rd p a+p-rd p b:=LV (by omega) hs
   exact .inl ⟨hs,by omega⟩
  ·have:sb p a b=rd p a-rd p b:=PN (by omega) (Nat.le_of_not_lt hs)
   exact .inr ⟨by omega,by omega⟩
 have hp:=h.high
 have o0:=h.c0
 have C1:=hide (fun x=>je h x)
 clear h
 generalize sb p a b=z at *
 generalize rd p=R at *
 rcases hc with⟨hc,hz⟩|⟨hc,hz⟩
 ·obtain⟨S,hS⟩:∃ S,S=R a+p:=⟨_,rfl⟩
  have hSi:(R a:Int)+(p:Int)=(S:Int):=by omega
  have hSw:IntKind.u64.wrap (S:Int)=(S:Int):=by rw[IntKind.wrap_u64];omega
  have hzz:(S:Int)-(R b:Int)=(z:Int):=by omega
  have hzw:IntKind.u64.wrap (z:Int)=(z:Int):=by rw[IntKind.wrap_u64];omega
  have hlt:(R a:Int)<(R b:Int):=by omega
  clear hc hz hS
  go_enter Tryz.func198,Tryz.ntmps198
  go_wp2_with fail
  refine(ae C1 a).mono ?_
  rintro e w1 ⟨rfl,rfl⟩
  go_wp2_with fail
  refine(ae C1 b).mono ?_
  rintro e w1 ⟨rfl,rfl⟩
  go_wp2
  go_ret
  exact⟨ax rfl,rfl⟩
 ·have hzz:(R a:Int)-(R b:Int)=(z:Int):=by omega
  have hzw:IntKind.u64.wrap (z:Int)=(z:Int):=by rw[IntKind.wrap_u64];omega
  have hlt:¬(R a:Int)<(R b:Int):=by omega
  clear hc hz
  go_enter Tryz.func198,Tryz.ntmps198
  go_wp2_with fail
  refine(ae C1 a).mono ?_
  rintro e w1 ⟨rfl,rfl⟩
  go_wp2_with fail
  refine(ae C1 b).mono ?_
  rintro e w1 ⟨rfl,rfl⟩
  go_wp2
  go_ret
  exact⟨ax rfl,rfl⟩
set_option maxHeartbeats 800000 in
theorem Lh{w:World}{g p:Nat}(h:MW w g p)(a:Nat):
  Calls Tryz.prog 213 #[.pointer (some ⟨g,0,none⟩),.int .u64 (a:Int)] w fun e w'=>e=.returned (.int .u64 (sb p 0 a:Int))/\w'=w:=by
 have C1:Hid (∀ x:Nat,Calls Tryz.prog 198 #[.pointer (some ⟨g,0,none⟩),.int .u64 0,.int .u64 (x:Int)] w fun e w'=>e=.returned (.int .u64 (sb p 0 x:Int))/\w'=w):=fun x=>jh h 0 x
 clear h
 generalize sb p 0=S at *
 go_enter Tryz.func213,Tryz.ntmps213
 go_wp2_with fail
 refine(ae C1 a).mono ?_
 rintro e w1 ⟨rfl,rfl⟩
 go_wp2
 go_ret
 exact⟨ax rfl,rfl⟩
set_option maxHeartbeats 1600000 in
theorem mul_mod{w:World}{g p:Nat}(h:MW w g p)(a b:Nat):
  Calls Tryz.prog 170 #[.pointer (some ⟨g,0,none⟩),.int .u64 (a:Int),.int .u64 (b:Int)] w fun e w'=>e=.returned (.int .u64 (ml p a b:Int))/\Below w.heap.size w w':=by
 have hl:=h.low
 have hp:=h.high
 have h1:rd p a<p:=Nat.mod_lt _ (by omega)
 have h2:rd p b<p:=Nat.mod_lt _ (by omega)
 have o0:=h.c0
 have hR:ml p a b=rd p a*rd p b%p:=(Oz p a b).symm
 have C1:=hide (fun x=>je h x)
 have C2:=hide (fun w=>fw (rd p a) (rd p b) w (by omega) (by omega))
 have hT:=Nat.div_add_mod (rd p a*rd p b) 18446744073709551616
 have hhi:=rE h1 h2 (by omega)
 have hlo:=Nat.mod_lt (rd p a*rd p b) (show 0<18446744073709551616 by omega)
 generalize rd p a*rd p b/18446744073709551616=hi at *
 generalize rd p a*rd p b%18446744073709551616=lo at *
 rw[<-hT]at hR
 obtain⟨Q,hQ⟩:∃ Q,Q=(18446744073709551616*hi+lo)/p:=⟨_,rfl⟩
 have C3:=hide (fun w=>mE hi lo p Q (ml p a b) w hhi hlo (by omega) hQ hR)
 clear h hQ hR hT
 generalize ml p a b=z at *
 generalize rd p=R at *
 go_enter Tryz.func170,Tryz.ntmps170
 go_wp2_with fail
 refine(ae C1 a).mono ?_
 rintro e w1 ⟨rfl,rfl⟩
 go_wp2_with fail
 refine(ae C1 b).mono ?_
 rintro e w1 ⟨rfl,rfl⟩
 go_wp2_with fail
 refine(ae C2 _).mono ?_
 rintro e w1 ⟨rfl,rfl⟩
 go_wp2_with fail
 refine(ae C3 _).mono ?_
 rintro e w2 ⟨rfl,b1⟩
 go_wp2
 go_ret
 exact⟨ax rfl,b1⟩
theorem MW.fresh(w:World)(p t:Nat)(ho:p%2=1)(hl:3<=p)(hh:p<4611686018427387904):
  MW (w.alloc (.cells #[.int .u64 (p:Int),.int .u64 (ig p:Int),.int .u64 ((18446744073709551616*18446744073709551616%p:Nat):Int)] t)) w.heap.size p:=by
 have hk:=heap_alloc_new w (.cells #[.int .u64 (p:Int),.int .u64 (ig p:Int),.int .u64 ((18446744073709551616*18446744073709551616%p:Nat):Int)] t)
 exact⟨cell_of_row _ w.heap.size 0 _ t (0,0) hk,cell_of_row _ w.heap.size 1 _ t (0,0) hk,cell_of_row _ w.heap.size 2 _ t (0,0) hk,ho,hl,hh⟩
theorem EJ(p:Nat):(18446744073709551616*(18446744073709551616%p))%p=18446744073709551616*18446744073709551616%p:=by
 rw[Nat.mul_mod,Nat.mod_mod, <-Nat.mul_mod]
set_option maxHeartbeats 1600000 in
theorem fY(p:Nat)(w:World)(ho:p%2=1)(hl:3<=p)(hh:p<4611686018427387904):
  Calls Tryz.prog 188 #[.int .u64 (p:Int)] w fun e w'=>∃ g,e=.returned (.tuple #[.pointer (some ⟨g,0,none⟩),.int .i64 0])/\MW w' g p/\w.heap.size<=g/\Below w.heap.size w w':=by
 have h1:¬(p:Int)<3:=by omega
 have h2:¬(4611686018427387904:Int)<=(p:Int):=by omega
 have h3:((p:Int).tmod 2)=1:=by have:=mB p 2;rw[ho]at this;exact this
 obtain⟨Q1,hQ1⟩:∃ Q,Q=(18446744073709551616*1+0)/p:=⟨_,rfl⟩
 have hR1:18446744073709551616%p=(18446744073709551616*1+0)%p:=rfl
 have C1:Hid (∀ w,Calls Tryz.prog 105 #[.int .u64 1,.int .u64 0,.int .u64 (p:Int)] w fun e w'=>e=.returned (.tuple #[.int .u64 (Q1:Int),.int .u64 ((18446744073709551616%p:Nat):Int),.bool true])/\Below w.heap.size w w'):=fun w=>mE 1 0 p Q1 (18446744073709551616%p) w (by omega) (by omega) (by omega) hQ1 hR1
 have hb:18446744073709551616%p<p:=Nat.mod_lt _ (by omega)
 have hs:=EJ p
 have HF:=hide (fun w=>MW.fresh w p 220 ho hl hh)
 generalize 18446744073709551616*18446744073709551616%p=sq at *
 generalize 18446744073709551616%p=r at *
 obtain⟨Q2,hQ2⟩:∃ Q,Q=(18446744073709551616*r+0)/p:=⟨_,rfl⟩
 have C2:Hid (∀ w,Calls Tryz.prog 105 #[.int .u64 (r:Int),.int .u64 0,.int .u64 (p:Int)] w fun e w'=>e=.returned (.tuple #[.int .u64 (Q2:Int),.int .u64 (sq:Int),.bool true])/\Below w.heap.size w w'):=fun w=>mE r 0 p Q2 sq w hb (by omega) (by omega) hQ2 hs.symm
 have C3:=hide (fun w=>qD p w (by omega))
 generalize ig p=I at *
 clear ho hl hh hb hs hQ1 hQ2 hR1
 go_enter Tryz.func188,Tryz.ntmps188
 go_wp2_with fail
 refine(ae C1 _).mono ?_
 rintro e w1 ⟨rfl,b1⟩
 go_wp2_with fail
 refine(ae C2 _).mono ?_
 rintro e w2 ⟨rfl,b2⟩
 go_wp2_with fail
 refine(ae C3 _).mono ?_
 rintro e w3 ⟨rfl,rfl⟩
 have b3:=ag b1 b2
 have hsz:=b3.size
 have HF:=ae HF w3
 clear b1 b2 C1 C2 C3
 have hF:=hide HF
 clear HF
 go_wp2
 go_ret2
 exact⟨w3.heap.size,rfl,ae hF,hsz,b3.alloc hsz _⟩
end Go.Proofs.YtgcnhfgpflncaaaGreatDoor
/- Package modw:Montgomery's form,powers,and a factor's own quotient. -/
namespace Go.Proofs.YtgcnhfgpflncaaaGreatDoor
open Go.RowKit
set_option maxHeartbeats 1600000 in
theorem bg{w:World}{g p:Nat}(h:MW w g p)(a b:Nat):
  Calls Tryz.prog 196 #[.pointer (some ⟨g,0,none⟩),.int .u64 (a:Int),.int .u64 (b:Int)] w fun e w'=>e=.returned (.int .u64 (mm p a b:Int))/\w'=w:=by
 have hl:=h.low
 have hp:=h.high
 have h1:rd p a<p:=Nat.mod_lt _ (by omega)
 have h2:rd p b<p:=Nat.mod_lt _ (by omega)
 have o0:=h.c0
 have o1:=h.c1
 have C1:=hide (fun x=>je h x)
 have C2:=hide (fun w=>fw (rd p a) (rd p b) w (by omega) (by omega))
 have C4:=hide (fun x y=>jh h x y)
 have ho:=h.odd
 obtain⟨hi,hhi⟩:∃ hi,hi=rd p a*rd p b/18446744073709551616:=⟨_,rfl⟩
 obtain⟨lo,hlo⟩:∃ lo,lo=rd p a*rd p b%18446744073709551616:=⟨_,rfl⟩
 obtain⟨q,hq⟩:∃ q,q=lo*ig p%18446744073709551616:=⟨_,rfl⟩
 have C3:=hide (fun w=>fw q p w (by rw[hq];exact Nat.mod_lt _ (by omega)) (by omega))
 obtain⟨top,ht⟩:∃ top,top=q*p/18446744073709551616:=⟨_,rfl⟩
 have e:sb p hi top=mm p a b:=K4 ho (by omega) hhi hlo hq ht
 have hqw:IntKind.u64.wrap ((lo:Int)*(ig p:Nat))=(q:Int):=uB (by rw[<-Int.natCast_mul,hq];rfl)
 have HE:=hide e
 rw[<-hhi, <-hlo]at C2
 rw[<-ht]at C3
 clear ho h hq e hhi hlo ht
 generalize q*p%18446744073709551616=z0 at *
 generalize mm p a b=z at *
 generalize ig p=I at *
 generalize sb p=S at *
 generalize rd p=R at *
 go_enter Tryz.func196,Tryz.ntmps196
 go_wp2_with fail
 refine(ae C1 a).mono ?_
 rintro e w1 ⟨rfl,rfl⟩
 go_wp2_with fail
 refine(ae C1 b).mono ?_
 rintro e w1 ⟨rfl,rfl⟩
 go_wp2_with fail
 refine(ae C2 _).mono ?_
 rintro e w1 ⟨rfl,rfl⟩
 go_wp2_with fail
 refine(ae C3 _).mono ?_
 rintro e w1 ⟨rfl,rfl⟩
 go_wp2_with fail
 refine(ae C4 _ _).mono ?_
 rintro e w1 ⟨rfl,rfl⟩
 rw[ae HE]
 go_wp2
 go_ret
 exact⟨ax rfl,rfl⟩
set_option maxHeartbeats 800000 in
theorem fZ{w:World}{g p:Nat}(h:MW w g p)(a:Nat):
  Calls Tryz.prog 194 #[.pointer (some ⟨g,0,none⟩),.int .u64 (a:Int)] w fun e w'=>e=.returned (.int .u64 (ml p a 18446744073709551616:Int))/\w'=w:=by
 have o2:=h.c2
 have C1:=hide (fun x y=>bg h x y)
 have e:mm p a (18446744073709551616*18446744073709551616%p)=ml p a 18446744073709551616:=K5 a h.odd (by have:=h.high;omega)
 have HE:=hide e
 clear e h
 generalize ml p a 18446744073709551616=z at *
 generalize 18446744073709551616*18446744073709551616%p=q at *
 generalize mm p=M at *
 go_enter Tryz.func194,Tryz.ntmps194
 go_wp2_with fail
 refine(ae C1 a q).mono ?_
 rintro e w1 ⟨rfl,rfl⟩
 rw[ae HE]
 go_wp2
 go_ret
 exact⟨ax rfl,rfl⟩
set_option maxHeartbeats 800000 in
theorem FP{w:World}{g p:Nat}(h:MW w g p)(a:Nat):
  Calls Tryz.prog 218 #[.pointer (some ⟨g,0,none⟩),.int .u64 (a:Int)] w fun e w'=>e=.returned (.int .u64 (mm p a 1:Int))/\w'=w:=by
 have C1:Hid (∀ x:Nat,Calls Tryz.prog 196 #[.pointer (some ⟨g,0,none⟩),.int .u64 (x:Int),.int .u64 1] w fun e w'=>e=.returned (.int .u64 (mm p x 1:Int))/\w'=w):=fun x=>bg h x 1
 clear h
 generalize mm p=M at *
 go_enter Tryz.func218,Tryz.ntmps218
 go_wp2_with fail
 refine(ae C1 a).mono ?_
 rintro e w1 ⟨rfl,rfl⟩
 go_wp2
 go_ret
 exact⟨ax rfl,rfl⟩
def shp(p w:Nat):Nat:=18446744073709551616*rd p w/p
set_option maxHeartbeats 1600000 in
theorem pow_mod{w:World}{g p:Nat}(h:MW w g p)(a N:Nat)(hN:N<18446744073709551616):
  Calls Tryz.prog 208 #[.pointer (some ⟨g,0,none⟩),.int .u64 (a:Int),.int .u64 (N:Int)] w fun e w'=>e=.returned (.int .u64 (pw p a N:Int))/\w'=w:=by
 have CM:=hide (fZ h a)
 have CO:Hid (Calls Tryz.prog 194 #[.pointer (some ⟨g,0,none⟩),.int .u64 1] w fun e w'=>e=.returned (.int .u64 (ml p 1 18446744073709551616:Int))/\w'=w):=fZ h 1
 have CX:=hide (fun x y=>bg h x y)
 have CB:=hide (fun x=>FP h x)
 have hp:p<18446744073709551616:=by have:=h.high;omega
 have H0:Hid (nC p a N (ml p 1 18446744073709551616) (ml p a 18446744073709551616) N):=pow_start p a N
 have H1:=hide (fun(o s n:Nat)=>pow_odd (a:=a) (N:=N) (o:=o) (s:=s) (n:=n) h.odd hp)
 have H2:=hide (fun(o s n:Nat)=>pow_even (a:=a) (N:=N) (o:=o) (s:=s) (n:=n) h.odd hp)
 have H3:=hide (fun(o s:Nat)=>pow_end (a:=a) (N:=N) (o:=o) (s:=s) h.odd hp)
 clear h hp
 generalize ml p 1 18446744073709551616=o1 at *
 generalize ml p a 18446744073709551616=s1 at *
 generalize pw p a N=z at *
 generalize nC p a N=PA at *
 generalize mm p=M at *
 go_enter Tryz.func208,Tryz.ntmps208
 go_wp2_with fail
 refine(ae CO).mono ?_
 rintro e w1 ⟨rfl,rfl⟩
 go_wp2_with fail
 refine(ae CM).mono ?_
 rintro e w1 ⟨rfl,rfl⟩
 go_wp2
 go_loopw [2,7,8] (fun nv ov sv wr=>∃(n o s:Nat),n<=N/\nv=.int .u64 (n:Int)/\ov=.int .u64 (o:Int)/\sv=.int .u64 (s:Int)/\Hid (PA o s n)/\wr=w1) (fun nv _ _ _=>(intOf nv).toNat)
 case atStart=>exact⟨N,o1,s1,Nat.le_refl _,rfl,rfl,rfl,H0,rfl⟩
 case round=>
  obtain⟨n,o,s,hn,rfl,rfl,rfl,hP,rfl⟩:=hrel
  by_cases h0:n=0
  ·subst h0
   have e:=ae H3 _ _ hP.out
   have HE:=hide e
   clear e hP
   go_wp2_with fail
   refine(ae CB o).mono ?_
   rintro e w1 ⟨rfl,rfl⟩
   rw[ae HE]
   go_wp2
   go_ret
   exact⟨ax rfl,rfl⟩
  ·obtain⟨k,hk⟩:∃ k,k=n/2:=⟨_,rfl⟩
   have hki:IntKind.u64.wrap ((n:Int)/2)=(k:Int):=by rw[IntKind.wrap_u64];omega
   have hpos:(0:Int)<(n:Int):=by omega
   have hkn:Hid (k<n):=by show k<n;omega
   by_cases ho:n%2=1
   ·have hm:(n:Int).tmod 2=1:=by have:=mB n 2;rw[ho]at this;exact this
    have e:=ae H1 _ _ _ hP.out ho
    rw[<-hk]at e
    have HE:=hide e
    clear e hP ho hk
    go_wp2_with fail
    refine(ae CX o s).mono ?_
    rintro e w1 ⟨rfl,rfl⟩
    go_wp2_with fail
    refine(ae CX s s).mono ?_
    rintro e w1 ⟨rfl,rfl⟩
    go_wp2
    go_roundw
    case rel=>exact⟨k,_,_,by have:=ae hkn;omega,by go_num,rfl,rfl,HE,by first|rfl|trivial⟩
    case measure=>simp[intOf];exact ae hkn
   ·have hm:(n:Int).tmod 2=0:=by have:=mB n 2;rw[show n%2=0 by omega]at this;exact this
    have e:=ae H2 _ _ _ hP.out ho
    rw[<-hk]at e
    have HE:=hide e
    clear e hP ho hk
    go_wp2_with fail
    refine(ae CX s s).mono ?_
    rintro e w1 ⟨rfl,rfl⟩
    go_wp2
    go_roundw
    case rel=>exact⟨k,_,_,by have:=ae hkn;omega,by go_num,rfl,rfl,HE,by first|rfl|trivial⟩
    case measure=>simp[intOf];exact ae hkn
end Go.Proofs.YtgcnhfgpflncaaaGreatDoor
/- Package modw:the inverse,and the example of the document. -/
namespace Go.Proofs.YtgcnhfgpflncaaaGreatDoor
open Go.RowKit
def sF(p a:Nat)(v:Value):Prop:=(Nat.gcd a p=1/\∃ x:Nat,x<p/\ml p a x=1/\v=.tuple #[.int .u64 (x:Int),.bool true])\/(Nat.gcd a p≠1/\v=.tuple #[.int .u64 0,.bool false])
theorem Ji(a b:Nat):(a:Int).tdiv (b:Int)=((a/b:Nat):Int):=rfl
set_option maxHeartbeats 1600000 in
theorem KJ{w:World}{g p:Nat}(h:MW w g p)(a:Nat):
  Calls Tryz.prog 214 #[.pointer (some ⟨g,0,none⟩),.int .u64 (a:Int)] w fun e w'=>∃ v,e=.returned v/\sF p a v/\Below w.heap.size w w':=by
 have hl:=h.low
 have hp:=h.high
 have o0:=cH.cell h.c0
 have CR:Hid (∀ u:cH w,Calls Tryz.prog 192 #[.pointer (some ⟨g,0,none⟩),.int .u64 (a:Int)] u.val fun e w'=>e=.returned (.int .u64 (rd p a:Int))/\w'=u.val):=fun u=>je (h.next u.old) a
 have CM:=hide (fun w (h:MW w g p) x y=>mul_mod h x y)
 have CS:=hide (fun w (h:MW w g p) x y=>jh h x y)
 have H0:=hide (Gv a hl)
 have H1:=hide (fun up lo ut t=>Kw (a:=a) (up:=up) (lo:=lo) (ut:=ut) (t:=t) (show 0<p by omega))
 have H2:=hide (fun up ut t=>Oe (a:=a) (up:=up) (ut:=ut) (t:=t) hl)
 have HM:=hide h
 have hr:rd p a<p:=Nat.mod_lt _ (by omega)
 clear h
 have HG:Hid (∀ up ut:Nat,up=Nat.gcd a p/\(up=1->ut<p/\ml p a ut=1)->(up=1->sF p a (.tuple #[.int .u64 (ut:Int),.bool true]))/\(up≠1->sF p a (.tuple #[.int .u64 0,.bool false]))):=by
  intro up ut ⟨e1,e2⟩
  exact⟨fun h=>.inl ⟨by rw[<-e1,h],ut,(e2 h).1,(e2 h).2,rfl⟩,fun h=>.inr ⟨by rw[<-e1];exact h,rfl⟩⟩
 generalize sF p a=IA at *
 generalize Nat.gcd a p=G at *
 generalize rd p a=r at *
 generalize sb p=S at *
 generalize ml p=M at *
 generalize Ft p a=E at *
 go_enter Tryz.func214,Tryz.ntmps214
 go_wp2_with fail
 have inst:=bD w
 refine bn (by kernel_rfl) (by kernel_rfl) ?_
 repeat (go_big_quiet_step ((go_at_call 192;exact Calls.old_same (ae CR _))))
 refine wpQuiet_nil ?_
 intro w5 hw5
 obtain⟨u,rfl⟩:=hw5
 have b1:=u.old
 have HM:=hide ((ae HM).next u.old)
 generalize u.val=w5 at *
 clear u inst o0 CR
 go_wp2
 go_loopw [6,7,8,9] (fun uv lv utv tv wr=>∃(up lo ut t:Nat),up<=p/\lo<p/\uv=.int .u64 (up:Int)/\lv=.int .u64 (lo:Int)/\utv=.int .u64 (ut:Int)/\tv=.int .u64 (t:Int)/\Hid (E up lo ut t)/\Hid (MW wr g p)/\Below w.heap.size w wr) (fun _ lv _ _ _=>(intOf lv).toNat)
 case atStart=>exact⟨p,r,0,1,by omega,hr,rfl,rfl,rfl,rfl,H0,HM,b1⟩
 case round=>
  clear b1 HM
  obtain⟨up,lo,ut,t,hup,hlo,rfl,rfl,rfl,rfl,hE,hM,hb⟩:=hrel
  by_cases h0:lo=0
  ·subst h0
   have e:=ae H2 _ _ _ hE.out
   obtain⟨e1,e2⟩:=ae HG up ut e
   clear hE e HG H0 H1 H2
   by_cases hu:up=1
   ·subst hu
    have e:=hide (e1 rfl)
    clear e1 e2
    go_wp2
    go_ret2
    exact⟨_,rfl,ae e,hb⟩
   ·have hne:((up:Int)!=1)=true:=by rw[bne_iff_ne];omega
    have e:=hide (e2 hu)
    clear e1 e2 hu
    go_wp2
    go_ret2
    exact⟨_,rfl,ae e,hb⟩
  ·obtain⟨q,hq⟩:∃ q,q=up/lo:=⟨_,rfl⟩
   obtain⟨T,hT⟩:∃ T,T=q*lo:=⟨_,rfl⟩
   obtain⟨l2,hl2⟩:∃ l2,l2=up%lo:=⟨_,rfl⟩
   have e:=ae H1 _ _ _ _ hE.out
   rw[<-hq, <-hl2]at e
   have HE:=hide e
   have hdm:=Nat.div_add_mod up lo
   rw[<-hq, <-hl2,Nat.mul_comm, <-hT]at hdm
   have hlt:l2<lo:=by rw[hl2];exact Nat.mod_lt _ (by omega)
   have hqu:q<=up:=by rw[hq];exact Nat.div_le_self _ _
   have f1:(up:Int).tdiv (lo:Int)=(q:Int):=by rw[hq];exact Ji up lo
   have f2:(up:Int)/(lo:Int)=(q:Int):=by rw[hq];rfl
   have f3:IntKind.u64.wrap (q:Int)=(q:Int):=by rw[IntKind.wrap_u64];omega
   have f4:(q:Int)*(lo:Int)=(T:Int):=by rw[hT];exact(Int.natCast_mul q lo).symm
   have f5:IntKind.u64.wrap (T:Int)=(T:Int):=by rw[IntKind.wrap_u64];omega
   have f6:(up:Int)-(T:Int)=(l2:Int):=by omega
   have f7:IntKind.u64.wrap (l2:Int)=(l2:Int):=by rw[IntKind.wrap_u64];omega
   have hpos:(0:Int)<(lo:Int):=by omega
   have hnz:¬(lo:Int)=0:=by omega
   clear hq hT hl2 hE e hdm h0
   go_wp2_with fail
   refine(ae CM _ (ae hM) _ _).mono ?_
   rintro e w6 ⟨rfl,b2⟩
   have hM:=hide ((ae hM).next b2)
   have hb:=ag hb b2
   clear b2
   go_wp2_with fail
   refine(ae CS _ (ae hM) _ _).mono ?_
   rintro e w7 ⟨rfl,rfl⟩
   go_wp2
   go_roundw
   case rel=>exact⟨lo,l2,t,_,by omega,by omega,rfl,by go_num,rfl,rfl,HE,hM,hb⟩
   case measure=>simp[intOf];omega
end Go.Proofs.YtgcnhfgpflncaaaGreatDoor
