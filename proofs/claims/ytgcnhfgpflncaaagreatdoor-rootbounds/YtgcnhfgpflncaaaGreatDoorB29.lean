/- Package word: Mul, Add, Sub, Div, Inverse. -/
import Derived.Test.YtgcnhfgpflncaaaGreatDoorB28
import Derived.Laws.BitsAllLaws
import Derived.Test.YtgcnhfgpflncaaaGreatDoorB3
import Derived.Test.YtgcnhfgpflncaaaGreatDoorB25
import Derived.Test.YtgcnhfgpflncaaaGreatDoorB1
import Derived.Test.YtgcnhfgpflncaaaGreatDoorB8
namespace Go.Proofs.YtgcnhfgpflncaaaGreatDoor
open Go.RowKit
theorem Ee{a b c d:Int}{p q:Bool}(h:a=b)(h':c=d)(h'':p=q):Ending.returned (.tuple #[.int .u64 a,.int .u64 c,.bool p])=.returned (.tuple #[.int .u64 b,.int .u64 d,.bool q]):=by rw[h,h',h'']
theorem OL{a b:Int}{p q:Bool}(h:a=b)(h'':p=q):Ending.returned (.tuple #[.int .u64 a,.bool p])=.returned (.tuple #[.int .u64 b,.bool q]):=by rw[h,h'']
theorem mM(hi lo y:Nat)(w:World)(h0:hi<y)(h1:lo<18446744073709551616)(h2:y<18446744073709551616):
  Calls Tryz.prog 142 #[.int .u64 (hi:Int),.int .u64 (lo:Int),.int .u64 (y:Int)] w fun e w'=>e=.returned (.tuple #[.int .u64 (((18446744073709551616*hi+lo)/y:Nat):Int),.int .u64 (((18446744073709551616*hi+lo)%y:Nat):Int)])/\Below w.heap.size w w':=by
 by_cases h:hi=0
 ·subst h
  have:=vo lo y w h1 h2 h0
  rw[Nat.mul_zero,Nat.zero_add]
  exact this
 ·exact BF hi lo y w (by omega) h1 h2 h0 (by omega)
set_option maxHeartbeats 400000 in
theorem fw(x y:Nat)(w:World)(hx:x<18446744073709551616)(hy:y<18446744073709551616):
  Calls Tryz.prog 143 #[.int .u64 (x:Int),.int .u64 (y:Int)] w fun e w'=>e=.returned (.tuple #[.int .u64 ((x*y/18446744073709551616:Nat):Int),.int .u64 ((x*y%18446744073709551616:Nat):Int)])/\w'=w:=by
 go_enter Tryz.func143,Tryz.ntmps143
 go_wp2_with fail
 refine(ij x y _ hx hy).mono ?_
 rintro e w' ⟨rfl,rfl⟩
 go_wp2
 go_ret2
 exact⟨bF rfl rfl,rfl⟩
theorem Iq(d:Nat)(h:d<18446744073709551616):18446744073709551615^^^d=18446744073709551615-d:=by
 have e:=congrArg BitVec.toNat (BitVec.allOnes_xor (x:=BitVec.ofNat 64 d))
 rw[BitVec.toNat_xor,BitVec.toNat_not,BitVec.toNat_allOnes,BitVec.toNat_ofNat,Nat.mod_eq_of_lt (by omega)]at e
 exact e
theorem OC(d:Nat)(h:d<18446744073709551616):bits .xor .u64 IntKind.u64.max (d:Int)=((18446744073709551615-d:Nat):Int):=by
 have e:IntKind.u64.max=((18446744073709551615:Nat):Int):=by decide
 rw[e,u64_xor_nat 18446744073709551615 d (by omega) h,Iq d h]
def te(d:Nat):Nat:=(18446744073709551616*(18446744073709551615-d)+18446744073709551615)/d
theorem tg(d:Nat)(h1:9223372036854775808<=d)(h2:d<18446744073709551616):te d<18446744073709551616:=by
 unfold te
 rw[Nat.div_lt_iff_lt_mul (by omega)]
 omega
set_option maxHeartbeats 400000 in
theorem uz(d:Nat)(w:World)(h1:9223372036854775808<=d)(h2:d<18446744073709551616):
  Calls Tryz.prog 179 #[.int .u64 (d:Int)] w fun e w'=>e=.returned (.int .u64 (te d:Int))/\Below w.heap.size w w':=by
 have hsg:IntKind.u64.signed=false:=rfl
 have hx:=OC d h2
 have hc:=mM (18446744073709551615-d) 18446744073709551615 d w (by omega) (by omega) h2
 have hI:te d=(18446744073709551616*(18446744073709551615-d)+18446744073709551615)/d:=rfl
 generalize 18446744073709551615-d=nd at *
 have HC:=hide hc
 clear hc
 generalize te d=I at *
 have HI:=hide hI
 clear hI
 go_enter Tryz.func179,Tryz.ntmps179
 go_wp2_with fail
 refine(ae HC).mono ?_
 rintro e w' ⟨rfl,hb⟩
 rw[<-ae HI]
 go_wp2
 go_ret
 exact⟨ax rfl,hb⟩
set_option maxHeartbeats 400000 in
theorem ef(a b c k:Nat)(w:World)(hk:(c=0/\k=0)\/(c≠0/\k=1)):
  Calls Tryz.prog 98 #[.int .u64 (a:Int),.int .u64 (b:Int),.int .u64 (c:Int)] w fun e w'=>e=.returned (.tuple #[.int .u64 (((a+b+k)%18446744073709551616:Nat):Int),.int .u64 (((a+b+k)/18446744073709551616:Nat):Int)])/\w'=w:=by
 rcases hk with⟨h,rfl⟩|⟨h,rfl⟩
 ·have hc:((c:Int)!=0)=false:=by rw[h];rfl
  have hr:∀ w,(callFunc 126 #[.int .u64 (a:Int),.int .u64 (b:Int),.int .u64 0]).run Tryz.prog w=_:=fun w=>eE a b w
  clear h
  generalize (a+b+0)%18446744073709551616=S at *
  generalize (a+b+0)/18446744073709551616=O at *
  go_enter Tryz.func98,Tryz.ntmps98
  go_wp2
  go_ret2
  exact⟨bF rfl rfl,rfl⟩
 ·have hc:((c:Int)!=0)=true:=by rw[bne_iff_ne];omega
  have hr:∀ w,(callFunc 126 #[.int .u64 (a:Int),.int .u64 (b:Int),.int .u64 1]).run Tryz.prog w=_:=fun w=>oP a b w
  clear h
  generalize (a+b+1)%18446744073709551616=S at *
  generalize (a+b+1)/18446744073709551616=O at *
  go_enter Tryz.func98,Tryz.ntmps98
  go_wp2
  go_ret2
  exact⟨bF rfl rfl,rfl⟩
set_option maxHeartbeats 400000 in
theorem qp(a b c k:Nat)(w:World)(hk:(c=0/\k=0)\/(c≠0/\k=1)):
  Calls Tryz.prog 85 #[.int .u64 (a:Int),.int .u64 (b:Int),.int .u64 (c:Int)] w fun e w'=>e=.returned (.tuple #[.int .u64 (((a+18446744073709551616-b-k)%18446744073709551616:Nat):Int),.int .u64 ((if a<b+k then 1 else 0:Nat):Int)])/\w'=w:=by
 rcases hk with⟨h,rfl⟩|⟨h,rfl⟩
 ·have hc:((c:Int)!=0)=false:=by rw[h];rfl
  have hr:∀ w,(callFunc 109 #[.int .u64 (a:Int),.int .u64 (b:Int),.int .u64 0]).run Tryz.prog w=_:=fun w=>lr a b w
  clear h
  generalize (a+18446744073709551616-b-0)%18446744073709551616=S at *
  generalize (if a<b+0 then 1 else 0:Nat)=O at *
  go_enter Tryz.func85,Tryz.ntmps85
  go_wp2
  go_ret2
  exact⟨bF rfl rfl,rfl⟩
 ·have hc:((c:Int)!=0)=true:=by rw[bne_iff_ne];omega
  have hr:∀ w,(callFunc 109 #[.int .u64 (a:Int),.int .u64 (b:Int),.int .u64 1]).run Tryz.prog w=_:=fun w=>qb a b w
  clear h
  generalize (a+18446744073709551616-b-1)%18446744073709551616=S at *
  generalize (if a<b+1 then 1 else 0:Nat)=O at *
  go_enter Tryz.func85,Tryz.ntmps85
  go_wp2
  go_ret2
  exact⟨bF rfl rfl,rfl⟩
end Go.Proofs.YtgcnhfgpflncaaaGreatDoor
/- Package word:Div. -/
namespace Go.Proofs.YtgcnhfgpflncaaaGreatDoor
open Go.RowKit
set_option maxHeartbeats 800000 in
theorem mE(hi lo d Q R:Nat)(w:World)(h:hi<d)(hl:lo<18446744073709551616)(hd:d<18446744073709551616)(hQ:Q=(18446744073709551616*hi+lo)/d)(hR:R=(18446744073709551616*hi+lo)%d):
  Calls Tryz.prog 105 #[.int .u64 (hi:Int),.int .u64 (lo:Int),.int .u64 (d:Int)] w fun e w'=>e=.returned (.tuple #[.int .u64 (Q:Int),.int .u64 (R:Int),.bool true])/\Below w.heap.size w w':=by
 have h':¬(d:Int)<=(hi:Int):=by omega
 have hc:=fun w=>mM hi lo d w h hl hd
 rw[<-hQ, <-hR]at hc
 have HC:=hide hc
 clear hc hQ hR
 go_enter Tryz.func105,Tryz.ntmps105
 go_wp2_with fail
 refine(ae HC _).mono ?_
 rintro e w1 ⟨rfl,b1⟩
 go_wp2
 go_ret3
 exact⟨Ee rfl rfl rfl,b1⟩
end Go.Proofs.YtgcnhfgpflncaaaGreatDoor
/- WordDivs:what the law's walk comes to. -/
namespace Go.Proofs.YtgcnhfgpflncaaaGreatDoor
open Go.RowKit
end Go.Proofs.YtgcnhfgpflncaaaGreatDoor
/- The document's answers of chapter 6:sums,products,powers,common divisors,inverses of residues,for any modulus above 0. -/
namespace Go.Proofs.YtgcnhfgpflncaaaGreatDoor
open Go.RowKit
end Go.Proofs.YtgcnhfgpflncaaaGreatDoor
/- Plain mathematics of a division by a word whose inverse is at hand. -/
namespace Go.Proofs.YtgcnhfgpflncaaaGreatDoor
theorem oy{Q R d N:Nat}(h:Q*d+R=N)(hr:R<d):Q=N/d/\R=N%d:=by
 subst h
 rw[Nat.mul_comm,Nat.mul_add_div (by omega),Nat.div_eq_of_lt hr,Nat.mul_add_mod,Nat.mod_eq_of_lt hr]
 exact⟨rfl,rfl⟩
end Go.Proofs.YtgcnhfgpflncaaaGreatDoor
/- Plain mathematics of three words over two,with the divisor's inverse at hand. -/
namespace Go.Proofs.YtgcnhfgpflncaaaGreatDoor
theorem ER(u2 u1 u0 d1 d0 D m k:Nat)(hd1:d1<18446744073709551616)(hd0:d0<18446744073709551616)(hD:D=d1*18446744073709551616+d0)(hm:m+D=340282366920938463463374607431768211456)(hu1:u1<18446744073709551616)(hu0:u0<18446744073709551616)
  (hlt:u2<d1\/(u2=d1/\u1<d0)) (hk:k<=D) (hk2:k<=18446744073709551616*m):
  18446744073709551616*(u2*k)+18446744073709551616*(u1*m)+340282366920938463463374607431768211456*u0+m*D<340282366920938463463374607431768211456*340282366920938463463374607431768211456:=by
 have emD:m*D+D*D=340282366920938463463374607431768211456*D:=by rw[<-Nat.add_mul,hm]
 rcases hlt with h|⟨h2,h⟩
 ·have b1:(u2+1)*k<=d1*D:=Nat.mul_le_mul h hk
  have b2:d1*18446744073709551616*D<=D*D:=Nat.mul_le_mul_right _ (by omega)
  have b3:u1*m<=18446744073709551615*m:=Nat.mul_le_mul_right _ (by omega)
  have b1':u2*k+u2*0+k=(u2+1)*k:=by rw[Nat.add_mul];omega
  have b4:u2*k<=(d1-1)*D:=Nat.mul_le_mul (by omega) hk
  have b4':(d1-1)*D+D=d1*D:=by
   obtain⟨f,rfl⟩:∃ f,d1=f+1:=⟨d1-1,by omega⟩
   simp only[Nat.add_sub_cancel];rw[Nat.add_mul];omega
  have b2':d1*18446744073709551616*D=18446744073709551616*(d1*D):=by rw[Nat.mul_comm d1,Nat.mul_assoc]
  rw[b2']at b2
  clear b1 b1' b2' hD hd0 hd1 hk hk2
  generalize d1*D=dD at *
  generalize u2*k=uk at *
  generalize u1*m=um at *
  generalize m*D=mD at *
  generalize D*D=DD at *
  generalize (d1-1)*D=ee at *
  omega
 ·rw[h2]
  have e1:18446744073709551616*(d1*D)+d0*D=D*D:=by
   rw[<-Nat.mul_assoc,Nat.mul_comm 18446744073709551616 d1, <-Nat.add_mul, <-hD]
  have e2:d0*m+d0*D=d0*340282366920938463463374607431768211456:=by rw[<-Nat.mul_add,hm]
  have b1:d1*k<=d1*D:=Nat.mul_le_mul_left _ hk
  have b2:u1*m<=(d0-1)*m:=Nat.mul_le_mul_right _ (by omega)
  have b2':(d0-1)*m+m=d0*m:=by
   obtain⟨f,rfl⟩:∃ f,d0=f+1:=⟨d0-1,by omega⟩
   simp only[Nat.add_sub_cancel];rw[Nat.add_mul];omega
  by_cases hmb:18446744073709551616<=m
  ·obtain⟨j,hj⟩:∃ j,j+d0=18446744073709551616:=⟨18446744073709551616-d0,by omega⟩
   have e3:j*m+d0*m=18446744073709551616*m:=by rw[<-Nat.add_mul,hj]
   have b3:j*18446744073709551616<=j*m:=Nat.mul_le_mul_left _ hmb
   clear hD hk hk2
   generalize d1*D=dD at *
   generalize d1*k=dk at *
   generalize u1*m=um at *
   generalize m*D=mD at *
   generalize D*D=DD at *
   generalize d0*m=dm at *
   generalize d0*D=d0D at *
   generalize (d0-1)*m=ee at *
   generalize j*m=jm at *
   omega
  ·obtain⟨t,ht⟩:∃ t,m+t=18446744073709551615:=⟨18446744073709551615-m,by omega⟩
   have e3:m*m+m*t=18446744073709551615*m:=by rw[<-Nat.mul_add,ht,Nat.mul_comm]
   have e4:m*t+t*t=18446744073709551615*t:=by rw[<-Nat.add_mul,ht]
   have e5:18446744073709551616*(d1*m)+d0*m=m*D:=by
    rw[<-Nat.mul_assoc,Nat.mul_comm 18446744073709551616 d1, <-Nat.add_mul, <-hD,Nat.mul_comm]
   have e6:m*m+m*D=m*340282366920938463463374607431768211456:=by rw[<-Nat.mul_add,hm]
   have b3:d1*k<=18446744073709551616*(d1*m):=by
    have:=Nat.mul_le_mul_left d1 hk2
    rw[Nat.mul_left_comm]at this;exact this
   clear hD hk hk2 e1 e2 b1 emD
   generalize d1*k=dk at *
   generalize u1*m=um at *
   generalize m*D=mD at *
   generalize d0*m=dm at *
   generalize d1*m=d1m at *
   generalize (d0-1)*m=ee at *
   generalize m*m=mm at *
   generalize m*t=mt at *
   generalize t*t=tt at *
   omega
theorem zy(u2 u1 u0 d1 d0 D m k V T L:Nat)(hd1:d1<18446744073709551616)(hd0:d0<18446744073709551616)(hD:D=d1*18446744073709551616+d0)(hm:m+D=340282366920938463463374607431768211456)(hu1:u1<18446744073709551616)(hu0:u0<18446744073709551616)
  (hlt:u2<d1\/(u2=d1/\u1<d0)) (hV:18446744073709551616<=V) (hk:V*D+k=340282366920938463463374607431768211456*18446744073709551616) (hkD:k<=D) (hTL:T*18446744073709551616+L=V*u2+u1) (hL:L<18446744073709551616):
  ∃ rt:Int,rt=(u2:Int)*340282366920938463463374607431768211456+(u1:Int)*18446744073709551616+(u0:Int)-((T*D:Nat):Int)-(D:Int)/\ -(D:Int)<=rt/\(L:Int)*18446744073709551616-340282366920938463463374607431768211456<=rt/\(rt<(m:Int)\/rt<(L:Int)*18446744073709551616):=by
 have hk2:k<=18446744073709551616*m:=by
  have:18446744073709551616*D<=V*D:=Nat.mul_le_mul_right _ hV
  omega
 have key:=ER u2 u1 u0 d1 d0 D m k hd1 hd0 hD hm hu1 hu0 hlt hkD hk2
 have e1:V*u2*D+u2*k=u2*(340282366920938463463374607431768211456*18446744073709551616):=by rw[<-hk,Nat.mul_add,Nat.mul_comm V u2,Nat.mul_assoc]
 have e2:T*D*18446744073709551616+L*D=V*u2*D+u1*D:=by rw[<-Nat.add_mul, <-hTL,Nat.add_mul,Nat.mul_right_comm]
 have e3:u1*m+u1*D=u1*340282366920938463463374607431768211456:=by rw[<-Nat.mul_add,hm]
 have e4:L*m+L*D=L*340282366920938463463374607431768211456:=by rw[<-Nat.mul_add,hm]
 have b3:L*m<=18446744073709551616*m:=Nat.mul_le_mul_right _ (by omega)
 obtain⟨rt,hrt⟩:∃ rt:Int,rt=(u2:Int)*340282366920938463463374607431768211456+(u1:Int)*18446744073709551616+(u0:Int)-((T*D:Nat):Int)-(D:Int):=⟨_,rfl⟩
 refine⟨rt,hrt,?_,?_,?_⟩
 ·clear key
  generalize V*u2*D=P at *
  generalize u2*k=uk at *
  generalize T*D=TD at *
  generalize L*D=LD at *
  generalize u1*D=uD at *
  generalize u1*m=um at *
  generalize L*m=Lm at *
  omega
 ·clear key
  generalize V*u2*D=P at *
  generalize u2*k=uk at *
  generalize T*D=TD at *
  generalize L*D=LD at *
  generalize u1*D=uD at *
  generalize u1*m=um at *
  generalize L*m=Lm at *
  omega
 ·refine Classical.byContradiction fun hno=>?_
  have h1:(m:Int)<=rt:=by omega
  have h2:(L:Int)*18446744073709551616<=rt:=by omega
  obtain⟨n,rfl⟩:=Int.eq_ofNat_of_zero_le (show 0<=rt by omega)
  have c1:m*m<=n*m:=Nat.mul_le_mul_right _ (by omega)
  have c2:L*18446744073709551616*D<=n*D:=Nat.mul_le_mul_right _ (by omega)
  have c2':L*18446744073709551616*D=18446744073709551616*(L*D):=by rw[Nat.mul_comm L,Nat.mul_assoc]
  have c3:n*m+n*D=n*340282366920938463463374607431768211456:=by rw[<-Nat.mul_add,hm]
  have c4:m*m+m*D=m*340282366920938463463374607431768211456:=by rw[<-Nat.mul_add,hm]
  rw[c2']at c2
  clear hno c2' hk hTL
  generalize V*u2*D=P at *
  generalize u2*k=uk at *
  generalize T*D=TD at *
  generalize L*D=LD at *
  generalize u1*D=uD at *
  generalize u1*m=um at *
  generalize L*m=Lm at *
  generalize m*m=mm at *
  generalize m*D=mD at *
  generalize n*m=nm at *
  generalize n*D=nD at *
  omega
end Go.Proofs.YtgcnhfgpflncaaaGreatDoor
/- Plain mathematics of three words over two:the two steps that mend the guess. -/
namespace Go.Proofs.YtgcnhfgpflncaaaGreatDoor
theorem vS{T D a:Nat}(h:T+a=18446744073709551616):T*D+a*D=18446744073709551616*D:=by rw[<-Nat.add_mul,h]
theorem Dn{u2 u1 u0 D p1 p0 x1 y c:Nat}{rt:Int}(hp0b:p0<340282366920938463463374607431768211456)(hp1b:p1<340282366920938463463374607431768211456)(hDb:D<340282366920938463463374607431768211456)(hx1:x1=(u1+340282366920938463463374607431768211456-p1)%18446744073709551616)(hy:y=(x1*18446744073709551616+u0+340282366920938463463374607431768211456-p0)%340282366920938463463374607431768211456)(hc:c=(y+340282366920938463463374607431768211456-D)%340282366920938463463374607431768211456)
  (hrt:rt=(u2:Int)*340282366920938463463374607431768211456+(u1:Int)*18446744073709551616+(u0:Int)-((p1*18446744073709551616+p0:Nat):Int)-(D:Int)):c<340282366920938463463374607431768211456/\∃ z:Int,rt=(c:Int)+340282366920938463463374607431768211456*z:=by
 have h1:=Nat.div_add_mod (u1+340282366920938463463374607431768211456-p1) 18446744073709551616
 rw[<-hx1]at h1
 have h2:=Nat.div_add_mod (x1*18446744073709551616+u0+340282366920938463463374607431768211456-p0) 340282366920938463463374607431768211456
 rw[<-hy]at h2
 have h3:=Nat.div_add_mod (y+340282366920938463463374607431768211456-D) 340282366920938463463374607431768211456
 rw[<-hc]at h3
 have hcb:c<340282366920938463463374607431768211456:=by rw[hc];exact Nat.mod_lt _ (by omega)
 clear hx1 hy hc
 generalize (u1+340282366920938463463374607431768211456-p1)/18446744073709551616=a at *
 generalize (x1*18446744073709551616+u0+340282366920938463463374607431768211456-p0)/340282366920938463463374607431768211456=b at *
 generalize (y+340282366920938463463374607431768211456-D)/340282366920938463463374607431768211456=e at *
 exact⟨hcb,(u2:Int)-18446744073709551616+(a:Int)-1+(b:Int)-1+(e:Int),by omega⟩
theorem Oy{c:Nat}{rt z:Int}(hc:c<340282366920938463463374607431768211456)(h:rt=(c:Int)+340282366920938463463374607431768211456*z)(h1: -340282366920938463463374607431768211456<=rt)(h2:rt<340282366920938463463374607431768211456):(rt<0/\(c:Int)=rt+340282366920938463463374607431768211456)\/(0<=rt/\(c:Int)=rt):=by omega
theorem xO(u2 u1 u0 d1 d0 D m k V T L:Nat)(h63:9223372036854775808<=d1)(hd1:d1<18446744073709551616)(hd0:d0<18446744073709551616)(hD:D=d1*18446744073709551616+d0)(hm:m+D=340282366920938463463374607431768211456)(hu1:u1<18446744073709551616)(hu0:u0<18446744073709551616)
  (hlt:u2<d1\/(u2=d1/\u1<d0)) (hV:18446744073709551616<=V) (hk:V*D+k=340282366920938463463374607431768211456*18446744073709551616) (hkD:k<=D) (hTL:T*18446744073709551616+L=V*u2+u1) (hL:L<18446744073709551616) (hT:T<18446744073709551616)
  (p1 p0 x1 y c N:Nat) (hp1:p1=T*d1) (hp0:p0=T*d0) (hp0b:p0<340282366920938463463374607431768211456) (hp1b:p1<340282366920938463463374607431768211456) (hx1:x1=(u1+340282366920938463463374607431768211456-p1)%18446744073709551616) (hy:y=(x1*18446744073709551616+u0+340282366920938463463374607431768211456-p0)%340282366920938463463374607431768211456) (hc:c=(y+340282366920938463463374607431768211456-D)%340282366920938463463374607431768211456)
  (hN:N=u2*340282366920938463463374607431768211456+u1*18446744073709551616+u0):
  ∃ qc:Nat,qc<18446744073709551616/\IntKind.u64.wrap ((T:Int)+1)=(qc:Int)/\
   ((L<=c/18446744073709551616/\IntKind.u64.wrap ((qc:Int)-1)=(T:Int)/\∃ R:Nat,R=(c+D)%340282366920938463463374607431768211456/\R<D/\T*D+R=N)\/
    (L<=c/18446744073709551616/\IntKind.u64.wrap ((qc:Int)-1)=(T:Int)/\c+D<340282366920938463463374607431768211456/\c<D/\qc*D+c=N)\/
    (¬L<=c/18446744073709551616/\∃ Q R:Nat,IntKind.u64.wrap ((qc:Int)+1)=(Q:Int)/\c=R+D/\R<D/\Q*D+R=N)\/
    (¬L<=c/18446744073709551616/\c<D/\qc*D+c=N)):=by
 obtain⟨rt,hrt,b1,b2,b3⟩:=zy u2 u1 u0 d1 d0 D m k V T L hd1 hd0 hD hm hu1 hu0 hlt hV hk hkD hTL hL
 have hTD:T*D=p1*18446744073709551616+p0:=by rw[hD,Nat.mul_add, <-Nat.mul_assoc, <-hp1, <-hp0]
 have hND:N<18446744073709551616*D:=by clear hx1 hy hc hTL hk b1 b2 b3 hrt hTD;rw[hN,hD];omega
 have hD2:170141183460469231731687303715884105728<=D:=by clear hx1 hy hc hTL hk b1 b2 b3 hrt hTD hlt;omega
 have hDb:D<340282366920938463463374607431768211456:=by clear hx1 hy hc hTL hk b1 b2 b3 hrt hTD hlt;omega
 have hrt':=hrt
 rw[hTD]at hrt'
 obtain⟨hcb,z,hz⟩:=Dn (rt:=rt) hp0b hp1b hDb hx1 hy hc hrt'
 clear hrt'
 clear hx1 hy hc hTL hk
 have hLm:(L:Int)*18446744073709551616<340282366920938463463374607431768211456:=by clear hrt hlt hz hTD b1 b2 b3;omega
 have hrt1: -340282366920938463463374607431768211456<=rt:=by clear hrt hlt hz hTD b2 b3;omega
 have hrt2:rt<340282366920938463463374607431768211456:=by clear hrt hlt hz hTD b1 b2;omega
 have hcr:=Oy hcb hz hrt1 hrt2
 have hrN:rt=(N:Int)-((T*D:Nat):Int)-(D:Int):=by clear hcr hz b1 b2 b3 hlt hTD hrt1 hrt2;rw[hrt,hN];omega
 clear hlt hkD hV hp1 hp0 hrt hTD hp0b hp1b hD hz hN hu0 hu1 hd0 hd1
 have hm1:(T+1)*D=T*D+D:=by rw[Nat.add_mul,Nat.one_mul]
 have hm2:(T+2)*D=T*D+2*D:=by rw[Nat.add_mul]
 by_cases hneg:rt<0
 ·have hce:(c:Int)=rt+340282366920938463463374607431768211456:=by
   rcases hcr with h|h
   ·exact h.2
   ·omega
  clear hcr b3
  by_cases htop:T+1=18446744073709551616
  ·refine⟨0,by omega,by rw[IntKind.wrap_u64];omega,Or.inl ⟨by omega,by rw[IntKind.wrap_u64];omega,(rt+D).toNat,by omega,by omega,?_⟩⟩
   generalize T*D=TD at *
   omega
  ·refine⟨T+1,by omega,by rw[IntKind.wrap_u64];omega,Or.inl ⟨by omega,by rw[IntKind.wrap_u64];omega,(rt+D).toNat,by omega,by omega,?_⟩⟩
   generalize T*D=TD at *
   omega
 ·have htop:T+1≠18446744073709551616:=fun h=>by
   clear hcr b1 b2 b3 hm1 hm2
   have hmt:=vS (D:=D) h
   rw[Nat.one_mul]at hmt
   generalize T*D=TD at *
   omega
  have htop2:(D:Int)<=rt->T+2≠18446744073709551616:=fun hr h=>by
   clear hcr b1 b2 b3 hm1 hm2
   have hmt:=vS (D:=D) h
   generalize T*D=TD at *
   omega
  have hce:(c:Int)=rt:=by
   rcases hcr with h|h
   ·omega
   ·exact h.2
  clear hcr
  refine⟨T+1,by omega,by rw[IntKind.wrap_u64];omega,Or.inr ?_⟩
  rw[hm1]
  by_cases hl:L<=c/18446744073709551616
  ·refine Or.inl ⟨hl,by rw[IntKind.wrap_u64];omega,by omega,by omega,?_⟩
   generalize T*D=TD at *
   omega
  ·by_cases hd:(D:Int)<=rt
   ·have ht2:=htop2 hd
    refine Or.inr (Or.inl ⟨hl,T+2,c-D,by rw[IntKind.wrap_u64];omega,by omega,by omega,?_⟩)
    rw[hm2]
    generalize T*D=TD at *
    omega
   ·refine Or.inr (Or.inr ⟨hl,by omega,?_⟩)
    generalize T*D=TD at *
    omega
end Go.Proofs.YtgcnhfgpflncaaaGreatDoor
/- Pairs of words:below,minus,plus. -/
namespace Go.Proofs.YtgcnhfgpflncaaaGreatDoor
open Go.RowKit
set_option maxHeartbeats 800000 in
theorem jX(a1 a0 b1 b0:Nat)(w:World)(h:a1<b1\/(a1=b1/\a0<b0)):
  Calls Tryz.prog 203 #[.int .u64 (a1:Int),.int .u64 (a0:Int),.int .u64 (b1:Int),.int .u64 (b0:Int)] w fun e w'=>e=.returned (.bool true)/\w'=w:=by
 rcases h with h|⟨h,h'⟩
 ·have h1:decide (a1<b1)=true:=by simp;omega
  have h2:(a1:Int)<(b1:Int):=by omega
  go_enter Tryz.func203,Tryz.ntmps203
  go_wp2
  go_ret
  exact⟨rfl,rfl⟩
 ·have h1:decide (a1<b1)=false:=by simp;omega
  have h2:((a1:Int)==(b1:Int))=true:=by rw[h];simp
  have h3:decide (a0<b0)=true:=by simp;omega
  have h4:(a0:Int)<(b0:Int):=by omega
  clear h
  go_enter Tryz.func203,Tryz.ntmps203
  go_wp2
  go_ret
  exact⟨rfl,rfl⟩
set_option maxHeartbeats 800000 in
theorem lM(a1 a0 b1 b0:Nat)(w:World)(h:b1<a1\/(a1=b1/\b0<=a0)):
  Calls Tryz.prog 203 #[.int .u64 (a1:Int),.int .u64 (a0:Int),.int .u64 (b1:Int),.int .u64 (b0:Int)] w fun e w'=>e=.returned (.bool false)/\w'=w:=by
 rcases h with h|⟨h,h'⟩
 ·have h1:decide (a1<b1)=false:=by simp;omega
  have h2:((a1:Int)==(b1:Int))=false:=by rw[beq_eq_false_iff_ne];omega
  clear h
  go_enter Tryz.func203,Tryz.ntmps203
  go_wp2
  go_ret
  exact⟨rfl,rfl⟩
 ·have h1:decide (a1<b1)=false:=by simp;omega
  have h2:((a1:Int)==(b1:Int))=true:=by rw[h];simp
  have h3:decide (a0<b0)=false:=by simp;omega
  clear h h'
  go_enter Tryz.func203,Tryz.ntmps203
  go_wp2
  go_ret
  exact⟨rfl,rfl⟩
set_option maxHeartbeats 800000 in
theorem ko(a1 a0 b1 b0 R1 R0:Nat)(w:World)(ha1:a1<18446744073709551616)(ha0:a0<18446744073709551616)(hb1:b1<18446744073709551616)(hb0:b0<18446744073709551616)(h1:R1<18446744073709551616)(h0:R0<18446744073709551616)
  (hR:R1*18446744073709551616+R0=(a1*18446744073709551616+a0+340282366920938463463374607431768211456-(b1*18446744073709551616+b0))%340282366920938463463374607431768211456):
  Calls Tryz.prog 204 #[.int .u64 (a1:Int),.int .u64 (a0:Int),.int .u64 (b1:Int),.int .u64 (b0:Int)] w fun e w'=>e=.returned (.tuple #[.int .u64 (R1:Int),.int .u64 (R0:Int)])/\w'=w:=by
 have s1:∀ w,(callFunc 109 #[.int .u64 (a0:Int),.int .u64 (b0:Int),.int .u64 0]).run Tryz.prog w=_:=fun w=>lr a0 b0 w
 obtain⟨c,hc,hc1⟩:∃ c:Nat,c=(if a0<b0+0 then 1 else 0)/\c<=1:=⟨_,rfl,by split<;>omega⟩
 rw[<-hc]at s1
 have s2:∀ w,(callFunc 109 #[.int .u64 (a1:Int),.int .u64 (b1:Int),.int .u64 (c:Int)]).run Tryz.prog w=_:=fun w=>EN a1 b1 c hc1 w
 have e0:(a0+18446744073709551616-b0-0)%18446744073709551616=R0:=by split at hc<;>omega
 have e1:(a1+18446744073709551616-b1-c)%18446744073709551616=R1:=by split at hc<;>omega
 rw[e0]at s1
 rw[e1]at s2
 generalize (if a1<b1+c then 1 else 0:Nat)=c2 at *
 clear hR hc e0 e1
 go_enter Tryz.func204,Tryz.ntmps204
 go_wp2
 go_ret2
 exact⟨bF rfl rfl,rfl⟩
set_option maxHeartbeats 800000 in
theorem wy(a1 a0 b1 b0 R1 R0:Nat)(w:World)(_ha1:a1<18446744073709551616)(ha0:a0<18446744073709551616)(_hb1:b1<18446744073709551616)(hb0:b0<18446744073709551616)(_h1:R1<18446744073709551616)(h0:R0<18446744073709551616)
  (hR:R1*18446744073709551616+R0=(a1*18446744073709551616+a0+(b1*18446744073709551616+b0))%340282366920938463463374607431768211456):
  Calls Tryz.prog 205 #[.int .u64 (a1:Int),.int .u64 (a0:Int),.int .u64 (b1:Int),.int .u64 (b0:Int)] w fun e w'=>e=.returned (.tuple #[.int .u64 (R1:Int),.int .u64 (R0:Int)])/\w'=w:=by
 have s1:∀ w,(callFunc 126 #[.int .u64 (a0:Int),.int .u64 (b0:Int),.int .u64 0]).run Tryz.prog w=_:=fun w=>eE a0 b0 w
 obtain⟨c,hc⟩:∃ c:Nat,c=(a0+b0+0)/18446744073709551616:=⟨_,rfl⟩
 rw[<-hc]at s1
 have s2:∀ w,(callFunc 126 #[.int .u64 (a1:Int),.int .u64 (b1:Int),.int .u64 (c:Int)]).run Tryz.prog w=_:=fun w=>qU a1 b1 c (by omega) w
 have e0:(a0+b0+0)%18446744073709551616=R0:=by omega
 have e1:(a1+b1+c)%18446744073709551616=R1:=by omega
 rw[e0]at s1
 rw[e1]at s2
 generalize (a1+b1+c)/18446744073709551616=c2 at *
 clear hR hc e0 e1
 go_enter Tryz.func205,Tryz.ntmps205
 go_wp2
 go_ret2
 exact⟨bF rfl rfl,rfl⟩
end Go.Proofs.YtgcnhfgpflncaaaGreatDoor
/- Div3:three words over two whose inverse is at hand. -/
namespace Go.Proofs.YtgcnhfgpflncaaaGreatDoor
open Go.RowKit
def kF(D:Nat):Nat:=(340282366920938463463374607431768211456*18446744073709551616-1)/D-18446744073709551616
theorem yQ(D:Nat)(h1:170141183460469231731687303715884105728<=D)(h2:D<340282366920938463463374607431768211456):
  kF D<18446744073709551616/\(340282366920938463463374607431768211456*18446744073709551616-1)/D=kF D+18446744073709551616/\∃ k,(kF D+18446744073709551616)*D+k=340282366920938463463374607431768211456*18446744073709551616/\k<=D/\1<=k:=by
 have hlo:18446744073709551616<=(340282366920938463463374607431768211456*18446744073709551616-1)/D:=by
  rw[Nat.le_div_iff_mul_le (by omega)];omega
 have hhi:(340282366920938463463374607431768211456*18446744073709551616-1)/D<18446744073709551616*2:=by
  rw[Nat.div_lt_iff_lt_mul (by omega)];omega
 have e1:(340282366920938463463374607431768211456*18446744073709551616-1)/D*D<=340282366920938463463374607431768211456*18446744073709551616-1:=Nat.div_mul_le_self _ _
 have e2:=Nat.lt_div_mul_add (a:=340282366920938463463374607431768211456*18446744073709551616-1) (b:=D) (by omega)
 have ev:kF D=(340282366920938463463374607431768211456*18446744073709551616-1)/D-18446744073709551616:=rfl
 generalize (340282366920938463463374607431768211456*18446744073709551616-1)/D=V at *
 have e3:kF D+18446744073709551616=V:=by omega
 refine⟨by omega,by omega,340282366920938463463374607431768211456*18446744073709551616-V*D,?_,?_,?_⟩
 ·rw[e3];omega
 ·omega
 ·omega
theorem mj{a b c d e f:Int}{p q:Bool}(h:a=b)(h':c=d)(h3:e=f)(h'':p=q):Ending.returned (.tuple #[.int .u64 a,.int .u64 c,.int .u64 e,.bool p])=.returned (.tuple #[.int .u64 b,.int .u64 d,.int .u64 f,.bool q]):=by rw[h,h',h3,h'']
set_option maxHeartbeats 800000 in
theorem uy(a2 a1 a0 d1 d0 v:Nat)(w:World)(h:d1<9223372036854775808\/(9223372036854775808<=d1/\(d1<a2\/(a2=d1/\d0<=a1)))):
  Calls Tryz.prog 181 #[.int .u64 (a2:Int),.int .u64 (a1:Int),.int .u64 (a0:Int),.int .u64 (d1:Int),.int .u64 (d0:Int),.int .u64 (v:Int)] w fun e w'=>e=.returned (.tuple #[.int .u64 0,.int .u64 0,.int .u64 0,.bool false])/\w'=w:=by
 rcases h with h|⟨h,h2⟩
 ·have h':(d1:Int)<9223372036854775808:=by omega
  go_enter Tryz.func181,Tryz.ntmps181
  go_wp2
  refine bodyPost_ret (v:=.tuple #[.int .u64 0,.int .u64 0,.int .u64 0,.bool false]) (by simp[results,Tryz.results181,go_sem]) rfl ⟨rfl,rfl⟩
 ·have h':decide ((d1:Int)<9223372036854775808)=false:=by simp;omega
  have C:=hide (fun w=>lM a2 a1 d1 d0 w h2)
  clear h h2
  go_enter Tryz.func181,Tryz.ntmps181
  go_wp2_with fail
  refine(ae C _).mono ?_
  rintro e w1 ⟨rfl,rfl⟩
  go_wp2
  refine bodyPost_ret (v:=.tuple #[.int .u64 0,.int .u64 0,.int .u64 0,.bool false]) (by simp[results,Tryz.results181,go_sem]) rfl ⟨rfl,rfl⟩
theorem jH{x y:Nat}(hx:x<18446744073709551616)(hy:y<18446744073709551616):x*y<340282366920938463463374607431768211456:=by
 have:x*y<=18446744073709551615*18446744073709551615:=Nat.mul_le_mul (by omega) (by omega)
 omega
theorem JJ{a p x:Nat}(hx:x=(a+340282366920938463463374607431768211456-p)%18446744073709551616)(hp:p<340282366920938463463374607431768211456)(ha:a<18446744073709551616):IntKind.u64.wrap ((a:Int)-IntKind.u64.wrap (p:Int))=(x:Int):=by
 rw[IntKind.wrap_u64,IntKind.wrap_u64];omega
theorem EV{v a2 a1 d1 d0 D k:Nat}(hk:(v+18446744073709551616)*D+k=340282366920938463463374607431768211456*18446744073709551616)(hD:D=d1*18446744073709551616+d0)(hlt:a2<d1\/(a2=d1/\a1<d0))(ha1:a1<18446744073709551616)(hd0:d0<18446744073709551616):
  (v+18446744073709551616)*a2+a1<340282366920938463463374607431768211456:=by
 have h1:a2*18446744073709551616+a1+1<=D:=by omega
 have h2:=Nat.mul_le_mul_left (v+18446744073709551616) h1
 rw[Nat.mul_add,Nat.mul_add, <-Nat.mul_assoc,Nat.mul_one]at h2
 have h3:18446744073709551616*a1<=(v+18446744073709551616)*a1:=Nat.mul_le_mul_right a1 (Nat.le_add_left 18446744073709551616 v)
 generalize (v+18446744073709551616)*a2=A at *
 generalize (v+18446744073709551616)*a1=B at *
 generalize (v+18446744073709551616)*D=C at *
 omega
theorem fG{fn:Func}{t u v x:Tmp}(h:fn.results=#[.tmp t,.tmp u,.tmp v,.tmp x])(tmps:Array Value)(P:Program)(w:World):
  (results fn tmps).run P w=.ok (.tuple #[tmps.getD t undef,tmps.getD u undef,tmps.getD v undef,tmps.getD x undef]) w:=by
 simp[results,h]
theorem di(X:Nat):X/18446744073709551616*18446744073709551616+X%18446744073709551616=X:=by omega
theorem fe{X:Nat}(h:X<340282366920938463463374607431768211456):X/18446744073709551616<18446744073709551616:=by omega
theorem pH{X d1 d0 D:Nat}(hD:D=d1*18446744073709551616+d0)(hd0:d0<18446744073709551616)(h:X<D):X/18446744073709551616<d1\/(X/18446744073709551616=d1/\X%18446744073709551616<d0):=by omega
theorem pG{X d1 d0 D:Nat}(hD:D=d1*18446744073709551616+d0)(h:D<=X):d1<X/18446744073709551616\/(X/18446744073709551616=d1/\d0<=X%18446744073709551616):=by omega
set_option maxRecDepth 100000 in
set_option maxHeartbeats 3200000 in
theorem Fe(a2 a1 a0 d1 d0 v D N Q R:Nat)(w:World)(h63:9223372036854775808<=d1)(hd1:d1<18446744073709551616)(hd0:d0<18446744073709551616)(hD:D=d1*18446744073709551616+d0)(hlt:a2<d1\/(a2=d1/\a1<d0))(ha1:a1<18446744073709551616)(ha0:a0<18446744073709551616)(hv:v=kF D)
  (hN:N=a2*340282366920938463463374607431768211456+a1*18446744073709551616+a0) (hQ:Q=N/D) (hR:R=N%D):
  Calls Tryz.prog 181 #[.int .u64 (a2:Int),.int .u64 (a1:Int),.int .u64 (a0:Int),.int .u64 (d1:Int),.int .u64 (d0:Int),.int .u64 (v:Int)] w fun e w'=>e=.returned (.tuple #[.int .u64 (Q:Int),.int .u64 ((R/18446744073709551616:Nat):Int),.int .u64 ((R%18446744073709551616:Nat):Int),.bool true])/\w'=w:=by
 have hDlo:170141183460469231731687303715884105728<=D:=by omega
 have hDhi:D<340282366920938463463374607431768211456:=by omega
 obtain⟨hv64,_,k,hk,hkD,hk1⟩:=yQ D hDlo hDhi
 rw[<-hv]at hv64 hk
 have CB:=hide (fun w=>jX a2 a1 d1 d0 w hlt)
 have ha2:a2<18446744073709551616:=by omega
 -- the guess
 have cM:=fun w=>ij v a2 w hv64 ha2
 have hP:=Nat.div_add_mod (v*a2) 18446744073709551616
 have hl2:v*a2%18446744073709551616<18446744073709551616:=Nat.mod_lt _ (by omega)
 have hVU:(v+18446744073709551616)*a2=v*a2+18446744073709551616*a2:=Nat.add_mul _ _ _
 have hTop:(v+18446744073709551616)*a2+a1<340282366920938463463374607431768211456:=EV hk hD hlt ha1 hd0
 generalize v*a2/18446744073709551616=t at *
 generalize v*a2%18446744073709551616=l at *
 generalize v*a2=P at *
 have CM:=hide cM
 clear cM
 have a1r:=fun w=>eE l a1 w
 obtain⟨L,hL⟩:∃ L,L=(l+a1+0)%18446744073709551616:=⟨_,rfl⟩
 obtain⟨c,hc⟩:∃ c,c=(l+a1+0)/18446744073709551616:=⟨_,rfl⟩
 rw[<-hL, <-hc]at a1r
 have a1r':∀ w,(callFunc 126 #[.int .u64 (l:Int),.int .u64 (a1:Int),.int .u64 0]).run Tryz.prog w=_:=a1r
 clear a1r
 have hLb:L<18446744073709551616:=by rw[hL];exact Nat.mod_lt _ (by omega)
 have a2r:=fun w=>qU t a2 c (by omega) w
 obtain⟨T,hT⟩:∃ T,T=(t+a2+c)%18446744073709551616:=⟨_,rfl⟩
 obtain⟨c2,hc2⟩:∃ c2,c2=(t+a2+c)/18446744073709551616:=⟨_,rfl⟩
 rw[<-hT, <-hc2]at a2r
 have hTb:T<18446744073709551616:=by rw[hT];exact Nat.mod_lt _ (by omega)
 have hTL:T*18446744073709551616+L=(v+18446744073709551616)*a2+a1:=by omega
 clear hT hc2 hL hc hP hVU hTop hl2
 -- the guess's remainder
 have cT:=fun w=>ij T d0 w hTb hd0
 obtain⟨p1,hp1⟩:∃ p1,p1=T*d1:=⟨_,rfl⟩
 obtain⟨p0,hp0⟩:∃ p0,p0=T*d0:=⟨_,rfl⟩
 have hp1b:p1<340282366920938463463374607431768211456:=by rw[hp1];exact jH hTb hd1
 have hp0b:p0<340282366920938463463374607431768211456:=by rw[hp0];exact jH hTb hd0
 rw[<-hp0]at cT
 have CT:=hide cT
 obtain⟨x1,hx1⟩:∃ x1,x1=(a1+340282366920938463463374607431768211456-p1)%18446744073709551616:=⟨_,rfl⟩
 obtain⟨y,hy⟩:∃ y,y=(x1*18446744073709551616+a0+340282366920938463463374607431768211456-p0)%340282366920938463463374607431768211456:=⟨_,rfl⟩
 obtain⟨cc,hcc⟩:∃ cc,cc=(y+340282366920938463463374607431768211456-D)%340282366920938463463374607431768211456:=⟨_,rfl⟩
 have hx1b:x1<18446744073709551616:=by rw[hx1];exact Nat.mod_lt _ (by omega)
 have hyb:y<340282366920938463463374607431768211456:=by rw[hy];exact Nat.mod_lt _ (by omega)
 have hccb:cc<340282366920938463463374607431768211456:=by rw[hcc];exact Nat.mod_lt _ (by omega)
 have ep1:(T:Int)*(d1:Int)=(p1:Int):=by rw[hp1,Int.natCast_mul]
 have ex1:IntKind.u64.wrap ((a1:Int)-IntKind.u64.wrap (p1:Int))=(x1:Int):=JJ hx1 hp1b ha1
 have CY:=hide (fun w=>ko x1 a0 (p0/18446744073709551616) (p0%18446744073709551616) (y/18446744073709551616) (y%18446744073709551616) w hx1b ha0 (fe hp0b) (Nat.mod_lt _ (by omega)) (fe hyb) (Nat.mod_lt _ (by omega)) (by rw[di,di];exact hy))
 have CC:=hide (fun w=>ko (y/18446744073709551616) (y%18446744073709551616) d1 d0 (cc/18446744073709551616) (cc%18446744073709551616) w (fe hyb) (Nat.mod_lt _ (by omega)) hd1 hd0 (fe hccb) (Nat.mod_lt _ (by omega)) (by rw[di,di, <-hD];exact hcc))
 obtain⟨qc,hqc,eqc,hcase⟩:=xO a2 a1 a0 d1 d0 D (340282366920938463463374607431768211456-D) k (v+18446744073709551616) T L h63 hd1 hd0 hD (by omega) ha1 ha0 hlt (by omega) hk hkD hTL hLb hTb p1 p0 x1 y cc N hp1 hp0 hp0b hp1b hx1 hy hcc hN
 clear hx1 hy hcc hp1 hp0 cT hTL hk hk1 hkD hN hlt hv
 have h4:decide ((d1:Int)<9223372036854775808)=false:=by simp;omega
 have c1lt:=fe hccb
 have c0lt:cc%18446744073709551616<18446744073709551616:=Nat.mod_lt _ (by omega)
 have DD:=hide hD
 clear h63
 rcases hcase with⟨k1,k2,R1,k3,k4,k5⟩|⟨k1,k2,k3,k4,k5⟩|⟨k1,Q1,R1,k3,k4,k5,k6⟩|⟨k1,k2,k3⟩
 ·obtain⟨f1,f2⟩:=oy k5 k4
  rw[<-hQ]at f1
  rw[<-hR]at f2
  subst f1 f2
  have hRb:R1<340282366920938463463374607431768211456:=by omega
  have CP:=hide (fun w=>wy (cc/18446744073709551616) (cc%18446744073709551616) d1 d0 (R1/18446744073709551616) (R1%18446744073709551616) w c1lt c0lt hd1 hd0 (fe hRb) (Nat.mod_lt _ (by omega)) (by rw[di,di, <-ae DD];exact k3))
  have CL:=hide (fun w=>jX (R1/18446744073709551616) (R1%18446744073709551616) d1 d0 w (pH (ae DD) hd0 k4))
  have k1':decide ((L:Int)<=((cc/18446744073709551616:Nat):Int))=true:=by simp;omega
  have k1'':decide (L<=cc/18446744073709551616)=true:=by simp;omega
  clear hQ hR k5 k3 k4 hD hRb
  generalize R1/18446744073709551616=r1 at *
  generalize R1%18446744073709551616=r0 at *
  generalize cc/18446744073709551616=c1 at *
  generalize cc%18446744073709551616=c0 at *
  generalize y/18446744073709551616=y1 at *
  generalize y%18446744073709551616=y0 at *
  generalize p0/18446744073709551616=t1 at *
  generalize p0%18446744073709551616=t0 at *
  have k1s:(L:Int)<=(c1:Int):=by omega
  go_enter Tryz.func181,Tryz.ntmps181
  go_wp2_with fail
  refine(ae CB _).mono ?_
  rintro e w1 ⟨rfl,rfl⟩
  go_wp2_with fail
  refine(ae CM _).mono ?_
  rintro e w2 ⟨rfl,rfl⟩
  go_wp2_with fail
  refine(ae CT _).mono ?_
  rintro e w3 ⟨rfl,rfl⟩
  go_wp2_with fail
  refine(ae CY _).mono ?_
  rintro e w4 ⟨rfl,rfl⟩
  go_wp2_with fail
  refine(ae CC _).mono ?_
  rintro e w5 ⟨rfl,rfl⟩
  go_wp2_with fail
  refine(ae CP _).mono ?_
  rintro e w6 ⟨rfl,rfl⟩
  go_wp2_with fail
  refine(ae CL _).mono ?_
  rintro e w7 ⟨rfl,rfl⟩
  go_wp2
  refine bodyPost_ret (fG rfl _ _ _) rfl ?_
  exact⟨mj rfl rfl rfl rfl,rfl⟩
 ·obtain⟨f1,f2⟩:=oy k5 k4
  rw[<-hQ]at f1
  rw[<-hR]at f2
  subst f1 f2
  obtain⟨P2,hP2⟩:∃ P2,P2=cc+D:=⟨_,rfl⟩
  have hPb:P2<340282366920938463463374607431768211456:=by omega
  have CP:=hide (fun w=>wy (cc/18446744073709551616) (cc%18446744073709551616) d1 d0 (P2/18446744073709551616) (P2%18446744073709551616) w c1lt c0lt hd1 hd0 (fe hPb) (Nat.mod_lt _ (by omega)) (by rw[di,di, <-ae DD,Nat.mod_eq_of_lt k3];exact hP2))
  have CL:=hide (fun w=>lM (P2/18446744073709551616) (P2%18446744073709551616) d1 d0 w (pG (ae DD) (by omega)))
  have CX:=hide (fun w=>ko (P2/18446744073709551616) (P2%18446744073709551616) d1 d0 (cc/18446744073709551616) (cc%18446744073709551616) w (fe hPb) (Nat.mod_lt _ (by omega)) hd1 hd0 c1lt c0lt (by rw[di,di, <-ae DD];omega))
  have k1s:(L:Int)<=((cc/18446744073709551616:Nat):Int):=by omega
  clear hQ hR k5 k3 k4 hD hPb hP2
  generalize P2/18446744073709551616=r1 at *
  generalize P2%18446744073709551616=r0 at *
  generalize cc/18446744073709551616=c1 at *
  generalize cc%18446744073709551616=c0 at *
  generalize y/18446744073709551616=y1 at *
  generalize y%18446744073709551616=y0 at *
  generalize p0/18446744073709551616=t1 at *
  generalize p0%18446744073709551616=t0 at *
  go_enter Tryz.func181,Tryz.ntmps181
  go_wp2_with fail
  refine(ae CB _).mono ?_
  rintro e w1 ⟨rfl,rfl⟩
  go_wp2_with fail
  refine(ae CM _).mono ?_
  rintro e w2 ⟨rfl,rfl⟩
  go_wp2_with fail
  refine(ae CT _).mono ?_
  rintro e w3 ⟨rfl,rfl⟩
  go_wp2_with fail
  refine(ae CY _).mono ?_
  rintro e w4 ⟨rfl,rfl⟩
  go_wp2_with fail
  refine(ae CC _).mono ?_
  rintro e w5 ⟨rfl,rfl⟩
  go_wp2_with fail
  refine(ae CP _).mono ?_
  rintro e w6 ⟨rfl,rfl⟩
  go_wp2_with fail
  refine(ae CL _).mono ?_
  rintro e w7 ⟨rfl,rfl⟩
  go_wp2_with fail
  refine(ae CX _).mono ?_
  rintro e w8 ⟨rfl,rfl⟩
  go_wp2
  refine bodyPost_ret (fG rfl _ _ _) rfl ?_
  exact⟨mj rfl rfl rfl rfl,rfl⟩
 ·obtain⟨f1,f2⟩:=oy k6 k5
  rw[<-hQ]at f1
  rw[<-hR]at f2
  subst f1 f2
  have hRb:R1<340282366920938463463374607431768211456:=by omega
  have CL:=hide (fun w=>lM (cc/18446744073709551616) (cc%18446744073709551616) d1 d0 w (pG (ae DD) (by omega)))
  have CX:=hide (fun w=>ko (cc/18446744073709551616) (cc%18446744073709551616) d1 d0 (R1/18446744073709551616) (R1%18446744073709551616) w c1lt c0lt hd1 hd0 (fe hRb) (Nat.mod_lt _ (by omega)) (by rw[di,di, <-ae DD];omega))
  have k1d:decide (L<=cc/18446744073709551616)=false:=by simp;omega
  have k1e:decide ((L:Int)<=((cc/18446744073709551616:Nat):Int))=false:=by simp;omega
  clear hQ hR k6 k4 k5 hD hRb k1
  generalize R1/18446744073709551616=r1 at *
  generalize R1%18446744073709551616=r0 at *
  generalize cc/18446744073709551616=c1 at *
  generalize cc%18446744073709551616=c0 at *
  generalize y/18446744073709551616=y1 at *
  generalize y%18446744073709551616=y0 at *
  generalize p0/18446744073709551616=t1 at *
  generalize p0%18446744073709551616=t0 at *
  go_enter Tryz.func181,Tryz.ntmps181
  go_wp2_with fail
  refine(ae CB _).mono ?_
  rintro e w1 ⟨rfl,rfl⟩
  go_wp2_with fail
  refine(ae CM _).mono ?_
  rintro e w2 ⟨rfl,rfl⟩
  go_wp2_with fail
  refine(ae CT _).mono ?_
  rintro e w3 ⟨rfl,rfl⟩
  go_wp2_with fail
  refine(ae CY _).mono ?_
  rintro e w4 ⟨rfl,rfl⟩
  go_wp2_with fail
  refine(ae CC _).mono ?_
  rintro e w5 ⟨rfl,rfl⟩
  go_wp2_with fail
  refine(ae CL _).mono ?_
  rintro e w7 ⟨rfl,rfl⟩
  go_wp2_with fail
  refine(ae CX _).mono ?_
  rintro e w8 ⟨rfl,rfl⟩
  go_wp2
  refine bodyPost_ret (fG rfl _ _ _) rfl ?_
  exact⟨mj rfl rfl rfl rfl,rfl⟩
 ·obtain⟨f1,f2⟩:=oy k3 k2
  rw[<-hQ]at f1
  rw[<-hR]at f2
  subst f1 f2
  have CL:=hide (fun w=>jX (cc/18446744073709551616) (cc%18446744073709551616) d1 d0 w (pH (ae DD) hd0 k2))
  have k1d:decide (L<=cc/18446744073709551616)=false:=by simp;omega
  have k1e:decide ((L:Int)<=((cc/18446744073709551616:Nat):Int))=false:=by simp;omega
  clear hQ hR k3 k2 hD k1
  generalize cc/18446744073709551616=c1 at *
  generalize cc%18446744073709551616=c0 at *
  generalize y/18446744073709551616=y1 at *
  generalize y%18446744073709551616=y0 at *
  generalize p0/18446744073709551616=t1 at *
  generalize p0%18446744073709551616=t0 at *
  go_enter Tryz.func181,Tryz.ntmps181
  go_wp2_with fail
  refine(ae CB _).mono ?_
  rintro e w1 ⟨rfl,rfl⟩
  go_wp2_with fail
  refine(ae CM _).mono ?_
  rintro e w2 ⟨rfl,rfl⟩
  go_wp2_with fail
  refine(ae CT _).mono ?_
  rintro e w3 ⟨rfl,rfl⟩
  go_wp2_with fail
  refine(ae CY _).mono ?_
  rintro e w4 ⟨rfl,rfl⟩
  go_wp2_with fail
  refine(ae CC _).mono ?_
  rintro e w5 ⟨rfl,rfl⟩
  go_wp2_with fail
  refine(ae CL _).mono ?_
  rintro e w7 ⟨rfl,rfl⟩
  go_wp2
  refine bodyPost_ret (fG rfl _ _ _) rfl ?_
  exact⟨mj rfl rfl rfl rfl,rfl⟩
end Go.Proofs.YtgcnhfgpflncaaaGreatDoor
/- Inverse2:the inverse of two words. -/
namespace Go.Proofs.YtgcnhfgpflncaaaGreatDoor
open Go.RowKit
theorem Hm(v d1 d0:Nat)(h63:9223372036854775808<=d1)(hd1:d1<18446744073709551616)(hd0:d0<18446744073709551616)(hv:v=te d1):
  ∃ k s:Nat,IntKind.u64.wrap ((d1:Int)*(v:Int))=(k:Int)/\k<18446744073709551616/\s=(k+d0)%18446744073709551616/\
   (((k+d0)/18446744073709551616=0/\∃ g,1<=g/\g<=d1/\s+g=18446744073709551616/\(18446744073709551616+v)*d1+d0+g=340282366920938463463374607431768211456)\/
    ((k+d0)/18446744073709551616=1/\s<d1/\1<=v/\∃ g,1<=g/\g<=d1/\g+s=d1/\(18446744073709551616+(v-1))*d1+d0+g=340282366920938463463374607431768211456)\/
    ((k+d0)/18446744073709551616=1/\d1<=s/\2<=v/\∃ g,1<=g/\g<=d1/\g+s=2*d1/\(18446744073709551616+(v-2))*d1+d0+g=340282366920938463463374607431768211456)):=by
 have hk1:v*d1<=18446744073709551616*(18446744073709551615-d1)+18446744073709551615:=by rw[hv];exact Nat.div_mul_le_self _ _
 have hk2:18446744073709551616*(18446744073709551615-d1)+18446744073709551615<v*d1+d1:=by
  have:=Nat.lt_div_mul_add (a:=18446744073709551616*(18446744073709551615-d1)+18446744073709551615) (b:=d1) (by omega)
  rw[hv];exact this
 have hv64:v<18446744073709551616:=by rw[hv];exact tg d1 h63 hd1
 clear hv
 have e0:(d1:Int)*(v:Int)=((v*d1:Nat):Int):=by rw[Int.natCast_mul,Int.mul_comm]
 have m0:(18446744073709551616+v)*d1=18446744073709551616*d1+v*d1:=Nat.add_mul _ _ _
 have m1:1<=v->(18446744073709551616+(v-1))*d1+d1=18446744073709551616*d1+v*d1:=fun h=>by
  obtain⟨f,rfl⟩:∃ f,v=f+1:=⟨v-1,by omega⟩
  simp only[Nat.add_sub_cancel];rw[Nat.add_mul,Nat.add_mul];omega
 have m2:2<=v->(18446744073709551616+(v-2))*d1+2*d1=18446744073709551616*d1+v*d1:=fun h=>by
  obtain⟨f,rfl⟩:∃ f,v=f+2:=⟨v-2,by omega⟩
  simp only[Nat.add_sub_cancel];rw[Nat.add_mul,Nat.add_mul];omega
 have z0:v=0->v*d1=0:=fun h=>by rw[h,Nat.zero_mul]
 have z1:v=1->v*d1=d1:=fun h=>by rw[h,Nat.one_mul]
 rw[e0]
 generalize v*d1=vd at *
 -- what the inverse of the upper word leaves
 obtain⟨k,hk,hk0,hkd⟩:∃ k,vd+k+18446744073709551616*d1=340282366920938463463374607431768211456/\1<=k/\k<=d1:=⟨340282366920938463463374607431768211456-18446744073709551616*d1-vd,by omega,by omega,by omega⟩
 refine⟨18446744073709551616-k,(18446744073709551616-k+d0)%18446744073709551616,by rw[IntKind.wrap_u64];omega,by omega,rfl,?_⟩
 by_cases hA:d0<k
 ·exact Or.inl ⟨by omega,k-d0,by omega,by omega,by omega,by rw[m0];omega⟩
 ·have hs:(18446744073709551616-k+d0)%18446744073709551616=d0-k:=by omega
  have hc:(18446744073709551616-k+d0)/18446744073709551616=1:=by omega
  rw[hs,hc]
  have hv1:1<=v:=by
   refine Nat.one_le_iff_ne_zero.2 fun h=>?_
   have:=z0 h
   omega
  by_cases hB:d0-k<d1
  ·have:=m1 hv1
   exact Or.inr (Or.inl ⟨rfl,hB,hv1,d1-(d0-k),by omega,by omega,by omega,by omega⟩)
  ·have hv2:2<=v:=by
    by_cases h:v=1
    ·have:=z1 h
     omega
    ·omega
   have:=m2 hv2
   exact Or.inr (Or.inr ⟨rfl,by omega,hv2,2*d1-(d0-k),by omega,by omega,by omega,by omega⟩)
theorem vM(v d1 d0 D g t:Nat)(h63:9223372036854775808<=d1)(hd1:d1<18446744073709551616)(hd0:d0<18446744073709551616)(hD:D=d1*18446744073709551616+d0)(hg1:1<=g)(hg:g<=d1)(he:(18446744073709551616+v)*d1+d0+g=340282366920938463463374607431768211456)(ht:t=v*d0)(htb:t<340282366920938463463374607431768211456):
  (t/18446744073709551616<g/\v=kF D)\/(g<=t/18446744073709551616/\1<=v/\(t-18446744073709551616*g)<D/\v-1=kF D)\/(g<=t/18446744073709551616/\2<=v/\D<=(t-18446744073709551616*g)/\v-2=kF D):=by
 have hDlo:170141183460469231731687303715884105728<=D:=by omega
 have hDhi:D<340282366920938463463374607431768211456:=by omega
 have hVD:(18446744073709551616+v)*D+18446744073709551616*g=340282366920938463463374607431768211456*18446744073709551616+t:=by
  rw[hD,Nat.mul_add, <-Nat.mul_assoc,ht]
  have e1:(18446744073709551616+v)*d0=18446744073709551616*d0+v*d0:=Nat.add_mul _ _ _
  rw[e1]
  generalize (18446744073709551616+v)*d1=A at *
  generalize v*d0=B at *
  omega
 have key:∀ V,V*D<=340282366920938463463374607431768211456*18446744073709551616-1->340282366920938463463374607431768211456*18446744073709551616-1<V*D+D->(340282366920938463463374607431768211456*18446744073709551616-1)/D=V:=fun V h1 h2=>by
  refine Nat.div_eq_of_lt_le h1 ?_
  rw[Nat.add_mul,Nat.one_mul];exact h2
 have hinv:kF D=(340282366920938463463374607431768211456*18446744073709551616-1)/D-18446744073709551616:=rfl
 have z0:v=0->t=0:=fun h=>by rw[ht,h,Nat.zero_mul]
 have z1:v=1->t=d0:=fun h=>by rw[ht,h,Nat.one_mul]
 have m1:1<=v->(18446744073709551616+(v-1))*D+D=(18446744073709551616+v)*D:=fun h=>by
  obtain⟨f,rfl⟩:∃ f,v=f+1:=⟨v-1,by omega⟩
  simp only[Nat.add_sub_cancel];rw[<-Nat.add_assoc,Nat.add_mul (18446744073709551616+f),Nat.one_mul]
 have m2:2<=v->(18446744073709551616+(v-2))*D+2*D=(18446744073709551616+v)*D:=fun h=>by
  obtain⟨f,rfl⟩:∃ f,v=f+2:=⟨v-2,by omega⟩
  simp only[Nat.add_sub_cancel];rw[<-Nat.add_assoc,Nat.add_mul (18446744073709551616+f)]
 clear he ht
 by_cases hA:t/18446744073709551616<g
 ·left
  have:=key (18446744073709551616+v) (by omega) (by omega)
  exact⟨hA,by omega⟩
 ·right
  have hv2:2<=v:=by
   by_cases h0:v=0
   ·have:=z0 h0;omega
   ·by_cases h1:v=1
    ·have:=z1 h1;omega
    ·omega
  by_cases hB:t-18446744073709551616*g<D
  ·left
   have hm:=m1 (by omega)
   have:=key (18446744073709551616+(v-1)) (by omega) (by omega)
   exact⟨by omega,by omega,hB,by omega⟩
  ·right
   have hm:=m2 hv2
   have:=key (18446744073709551616+(v-2)) (by omega) (by omega)
   exact⟨by omega,hv2,by omega,by omega⟩
end Go.Proofs.YtgcnhfgpflncaaaGreatDoor
/- Inverse2 and its two lowerings,walked over this program. -/
namespace Go.Proofs.YtgcnhfgpflncaaaGreatDoor
open Go.RowKit
set_option maxRecDepth 100000 in
set_option maxHeartbeats 1600000 in
theorem yW(v d1 d0:Nat)(h63:9223372036854775808<=d1)(hd1:d1<18446744073709551616)(hd0:d0<18446744073709551616)(hv:v=te d1):
  ∃ v1 g rest:Nat,v1<=v/\1<=g/\g<=d1/\rest+g=18446744073709551616/\(18446744073709551616+v1)*d1+d0+g=340282366920938463463374607431768211456/\
   ∀ w,Calls Tryz.prog 178 #[.int .u64 (v:Int),.int .u64 (d1:Int),.int .u64 (d0:Int)] w fun e w'=>e=.returned (.tuple #[.int .u64 (v1:Int),.int .u64 (rest:Int)])/\w'=w:=by
 obtain⟨k,s,hk,hk64,hs,hcase⟩:=Hm v d1 d0 h63 hd1 hd0 hv
 have hv64:v<18446744073709551616:=by rw[hv];exact tg d1 h63 hd1
 have hs64:s<18446744073709551616:=by rw[hs];exact Nat.mod_lt _ (by omega)
 have ar:∀ w,(callFunc 126 #[.int .u64 (k:Int),.int .u64 (d0:Int),.int .u64 0]).run Tryz.prog w=.ok (.value (.tuple #[.int .u64 (((k+d0)%18446744073709551616:Nat):Int),.int .u64 (((k+d0)/18446744073709551616:Nat):Int)])) w:=fun w=>eE k d0 w
 rw[<-hs]at ar
 clear hv hs h63
 rcases hcase with⟨hc,g,g1,g2,g3,g4⟩|⟨hc,hlt,hv1,g,g1,g2,g3,g4⟩|⟨hc,hge,hv2,g,g1,g2,g3,g4⟩
 ·rw[hc]at ar
  refine⟨v,g,s,Nat.le_refl _,g1,g2,g3,g4,fun w=>?_⟩
  have ar':∀ w,(callFunc 126 #[.int .u64 (k:Int),.int .u64 (d0:Int),.int .u64 0]).run Tryz.prog w=.ok (.value (.tuple #[.int .u64 (s:Int),.int .u64 0])) w:=ar
  clear ar hc g4 g3
  go_enter Tryz.func178,Tryz.ntmps178
  go_wp2
  go_ret2
  exact⟨bF rfl rfl,rfl⟩
 ·rw[hc]at ar
  refine⟨v-1,g,18446744073709551616-g,by omega,g1,g2,by omega,g4,fun w=>?_⟩
  have ar':∀ w,(callFunc 126 #[.int .u64 (k:Int),.int .u64 (d0:Int),.int .u64 0]).run Tryz.prog w=.ok (.value (.tuple #[.int .u64 (s:Int),.int .u64 1])) w:=ar
  have er:IntKind.u64.wrap ((s:Int)-(d1:Int))=((18446744073709551616-g:Nat):Int):=by rw[IntKind.wrap_u64];omega
  have ev:(v:Int)-1=((v-1:Nat):Int):=by omega
  have t1:decide ((d1:Int)<=(s:Int))=false:=by simp;omega
  have t2:decide (d1<=s)=false:=by simp;omega
  have hvb:v-1<18446744073709551616:=by omega
  clear ar hc g4 g3 hlt
  generalize 18446744073709551616-g=rest at *
  generalize v-1=v1 at *
  go_enter Tryz.func178,Tryz.ntmps178
  go_wp2
  go_ret2
  exact⟨bF rfl rfl,rfl⟩
 ·rw[hc]at ar
  refine⟨v-2,g,18446744073709551616-g,by omega,g1,g2,by omega,g4,fun w=>?_⟩
  have ar':∀ w,(callFunc 126 #[.int .u64 (k:Int),.int .u64 (d0:Int),.int .u64 0]).run Tryz.prog w=.ok (.value (.tuple #[.int .u64 (s:Int),.int .u64 1])) w:=ar
  have es:(s:Int)-(d1:Int)=((s-d1:Nat):Int):=by omega
  have er:IntKind.u64.wrap (((s-d1:Nat):Int)-(d1:Int))=((18446744073709551616-g:Nat):Int):=by rw[IntKind.wrap_u64];omega
  have ev:(v:Int)-1=((v-1:Nat):Int):=by omega
  have ev2:((v-1:Nat):Int)-1=((v-2:Nat):Int):=by omega
  have t1:decide ((d1:Int)<=(s:Int))=true:=by simp;omega
  have t2:decide (d1<=s)=true:=by simp;omega
  have t3:(d1:Int)<=(s:Int):=by omega
  have hvb:v-1<18446744073709551616:=by omega
  have hvc:v-2<18446744073709551616:=by omega
  have hsb:s-d1<18446744073709551616:=by omega
  have hvd:1<=v-1:=by omega
  clear ar hc g4 g3 hge
  generalize 18446744073709551616-g=rest at *
  generalize v-1=v1 at *
  generalize v-2=v2 at *
  generalize s-d1=sd at *
  go_enter Tryz.func178,Tryz.ntmps178
  go_wp2
  go_ret2
  exact⟨bF rfl rfl,rfl⟩
set_option maxRecDepth 100000 in
set_option maxHeartbeats 1600000 in
theorem qE(v d1 d0 D g rest I:Nat)(h63:9223372036854775808<=d1)(hd1:d1<18446744073709551616)(hd0:d0<18446744073709551616)(hD:D=d1*18446744073709551616+d0)(hv:v<18446744073709551616)(hg1:1<=g)(hg:g<=d1)(hr:rest+g=18446744073709551616)(he:(18446744073709551616+v)*d1+d0+g=340282366920938463463374607431768211456)(hI:I=kF D)(w:World):
  Calls Tryz.prog 180 #[.int .u64 (v:Int),.int .u64 (rest:Int),.int .u64 (d1:Int),.int .u64 (d0:Int)] w fun e w'=>e=.returned (.int .u64 (I:Int))/\w'=w:=by
 obtain⟨t,ht⟩:∃ t,t=v*d0:=⟨_,rfl⟩
 have htb:t<340282366920938463463374607431768211456:=by rw[ht];exact jH hv hd0
 have hcase:=vM v d1 d0 D g t h63 hd1 hd0 hD hg1 hg he ht htb
 rw[<-hI]at hcase
 have cM:=fun w=>ij v d0 w hv hd0
 rw[<-ht]at cM
 have CM:=hide cM
 have ht1:=fe htb
 have ht0:t%18446744073709551616<18446744073709551616:=Nat.mod_lt _ (by omega)
 have hpt:t/18446744073709551616*18446744073709551616+t%18446744073709551616=t:=di t
 have ar:∀ w,(callFunc 126 #[.int .u64 (rest:Int),.int .u64 ((t/18446744073709551616:Nat):Int),.int .u64 0]).run Tryz.prog w=.ok (.value (.tuple #[.int .u64 (((rest+t/18446744073709551616)%18446744073709551616:Nat):Int),.int .u64 (((rest+t/18446744073709551616)/18446744073709551616:Nat):Int)])) w:=fun w=>eE rest _ w
 clear cM ht he hI h63
 generalize t/18446744073709551616=t1 at *
 generalize t%18446744073709551616=t0 at *
 rcases hcase with⟨hlt,hI⟩|⟨hge,hv1,hB,hI⟩|⟨hge,hv2,hB,hI⟩
 ·have hc:(rest+t1)/18446744073709551616=0:=by omega
  rw[hc]at ar
  generalize (rest+t1)%18446744073709551616=r2 at *
  have ar':∀ w,(callFunc 126 #[.int .u64 (rest:Int),.int .u64 (t1:Int),.int .u64 0]).run Tryz.prog w=.ok (.value (.tuple #[.int .u64 (r2:Int),.int .u64 0])) w:=ar
  subst hI
  clear ar hc hD hpt hlt
  go_enter Tryz.func180,Tryz.ntmps180
  go_wp2_with fail
  refine(ae CM _).mono ?_
  rintro e w1 ⟨rfl,rfl⟩
  go_wp2
  go_ret
  exact⟨ax rfl,rfl⟩
 ·have hc:(rest+t1)/18446744073709551616=1:=by omega
  rw[hc]at ar
  obtain⟨p,hp⟩:∃ p,p=(rest+t1)%18446744073709551616:=⟨_,rfl⟩
  rw[<-hp]at ar
  have ar':∀ w,(callFunc 126 #[.int .u64 (rest:Int),.int .u64 (t1:Int),.int .u64 0]).run Tryz.prog w=.ok (.value (.tuple #[.int .u64 (p:Int),.int .u64 1])) w:=ar
  have hpe:p+g=t1:=by omega
  have CL:=hide (fun w=>jX p t0 d1 d0 w (by omega))
  have ev:(v:Int)-1=(I:Int):=by omega
  have hIb:I<18446744073709551616:=by omega
  clear ar hc hD hpt hge hp hpe hB hI
  go_enter Tryz.func180,Tryz.ntmps180
  go_wp2_with fail
  refine(ae CM _).mono ?_
  rintro e w1 ⟨rfl,rfl⟩
  go_wp2_with fail
  refine(ae CL _).mono ?_
  rintro e w2 ⟨rfl,rfl⟩
  go_wp2
  go_ret
  exact⟨ax rfl,rfl⟩
 ·have hc:(rest+t1)/18446744073709551616=1:=by omega
  rw[hc]at ar
  obtain⟨p,hp⟩:∃ p,p=(rest+t1)%18446744073709551616:=⟨_,rfl⟩
  rw[<-hp]at ar
  have ar':∀ w,(callFunc 126 #[.int .u64 (rest:Int),.int .u64 (t1:Int),.int .u64 0]).run Tryz.prog w=.ok (.value (.tuple #[.int .u64 (p:Int),.int .u64 1])) w:=ar
  have hpe:p+g=t1:=by omega
  have CL:=hide (fun w=>lM p t0 d1 d0 w (by omega))
  obtain⟨v1,hv1⟩:∃ v1,v1=v-1:=⟨_,rfl⟩
  have ev:(v:Int)-1=(v1:Int):=by omega
  have ev2:(v1:Int)-1=(I:Int):=by omega
  have hIb:I<18446744073709551616:=by omega
  have hvb:v1<18446744073709551616:=by omega
  have hvd:1<=v1:=by omega
  clear ar hc hD hpt hge hp hpe hB hI hv1
  go_enter Tryz.func180,Tryz.ntmps180
  go_wp2_with fail
  refine(ae CM _).mono ?_
  rintro e w1 ⟨rfl,rfl⟩
  go_wp2_with fail
  refine(ae CL _).mono ?_
  rintro e w2 ⟨rfl,rfl⟩
  go_wp2
  go_ret
  exact⟨ax rfl,rfl⟩
set_option maxRecDepth 100000 in
set_option maxHeartbeats 800000 in
theorem qR(d1 d0 D I:Nat)(w:World)(h63:9223372036854775808<=d1)(hd1:d1<18446744073709551616)(hd0:d0<18446744073709551616)(hD:D=d1*18446744073709551616+d0)(hI:I=kF D):
  Calls Tryz.prog 150 #[.int .u64 (d1:Int),.int .u64 (d0:Int)] w fun e w'=>e=.returned (.tuple #[.int .u64 (I:Int),.bool true])/\Below w.heap.size w w':=by
 have h3:decide ((d1:Int)<9223372036854775808)=false:=by simp;omega
 have C0:=hide (fun w=>uz d1 w h63 hd1)
 have hv64:=tg d1 h63 hd1
 obtain⟨v1,g,rest,k0,k1,k2,k3,k4,C1⟩:=yW (te d1) d1 d0 h63 hd1 hd0 rfl
 generalize te d1=v at *
 have C1':=hide C1
 have C2:=hide (fun w=>qE v1 d1 d0 D g rest I h63 hd1 hd0 hD (by omega) k1 k2 k3 k4 hI w)
 clear C1 k4 hD hI h63
 go_enter Tryz.func150,Tryz.ntmps150
 go_wp2_with fail
 refine(ae C0 _).mono ?_
 rintro e w1 ⟨rfl,b1⟩
 go_wp2_with fail
 refine(ae C1' _).mono ?_
 rintro e w2 ⟨rfl,rfl⟩
 go_wp2_with fail
 refine(ae C2 _).mono ?_
 rintro e w3 ⟨rfl,rfl⟩
 go_wp2
 go_ret2
 exact⟨OL rfl rfl,b1⟩
end Go.Proofs.YtgcnhfgpflncaaaGreatDoor
