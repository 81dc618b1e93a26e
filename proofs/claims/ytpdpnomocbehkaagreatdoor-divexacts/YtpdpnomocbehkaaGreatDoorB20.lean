/- Bits and bit: binary digits of a natural. -/
import Derived.Test.YtpdpnomocbehkaaGreatDoorB3
import Derived.Test.YtpdpnomocbehkaaGreatDoorB6
namespace Go.Proofs.YtpdpnomocbehkaaGreatDoor
open Go.RowKit
theorem AZ(k:Nat):4294967296^k=2^(32*k):=by rw[Nat.pow_mul]
theorem zd:∀(xs:List Nat) (j:Nat),gZ xs->xs.getD j 0=val xs/4294967296^j%4294967296
 |[],j,_=>by simp[val]
 |x :: xs,0,h=>by
  have:=h 0
  simp only[List.getD_cons_zero]at this ⊢
  simp only[val,Nat.pow_zero,Nat.div_one]
  omega
 |x :: xs,j+1,h=>by
  have h0:=h 0
  simp only[List.getD_cons_zero]at h0
  have ih:=zd xs j (fun k=>by simpa using h (k+1))
  rw[List.getD_cons_succ,ih]
  simp only[val,Nat.pow_succ]
  rw[Nat.mul_comm (4294967296^j), <-Nat.div_div_eq_div_mul,show(x+4294967296*val xs)/4294967296=val xs from by omega]
theorem NF{xs:List Nat}(h:gZ xs)(i:Nat):xs.getD (i/32) 0/2^(i%32)%2=val xs/2^i%2:=by
 rw[zd xs (i/32) h,AZ]
 have e:2^i=2^(32*(i/32))*2^(i%32):=by rw[<-Nat.pow_add,Nat.div_add_mod]
 rw[e, <-Nat.div_div_eq_div_mul]
 generalize val xs/2^(32*(i/32))=y
 have ht:i%32<32:=Nat.mod_lt _ (by omega)
 generalize i%32=t at *
 have e2:(4294967296:Nat)=2^t*(2*2^(31-t)):=by rw[<-Nat.pow_succ', <-Nat.pow_add,show t+(31-t).succ=32 from by omega]
 rw[e2,Nat.mod_mul_right_div_self,Nat.mod_mul_right_mod]
theorem Ge{xs:List Nat}(hd:gZ xs)(hl:0<xs.length){t:Nat}(h:xs.getD (xs.length-1) 0<2^t):val xs<2^(32*(xs.length-1)+t):=by
 have h1:=aA xs (xs.length-1)
 rw[show xs.length-1+1=xs.length from by omega,List.take_length]at h1
 have h2:=qJ hd (xs.length-1)
 rw[h1,Nat.pow_add, <-AZ]
 have h3:4294967296^(xs.length-1)*(xs.getD (xs.length-1) 0+1)<=4294967296^(xs.length-1)*2^t:=Nat.mul_le_mul_left _ h
 rw[Nat.mul_add]at h3
 omega
theorem Dm{x q t:Nat}(h:x/2^t=q):x/2^(t+1)=q/2:=by
 rw[Nat.pow_succ, <-Nat.div_div_eq_div_mul,h]
theorem Ha{x t:Nat}(h:x/2^t=0):x<2^t:=by
 rcases Nat.div_eq_zero_iff.1 h with h|h
 ·have:0<2^t:=Nat.pow_pos (by omega)
  omega
 ·exact h
theorem Dl{x q t:Nat}(h:x/2^t=q)(hq:0<q)(hx:x<4294967296):t<32:=by
 refine Nat.lt_of_not_le fun ht=>?_
 have h1:2^32<=2^t:=Nat.pow_le_pow_right (by omega) ht
 have:x/2^t=0:=Nat.div_eq_of_lt (by omega)
 omega
set_option maxHeartbeats 800000 in
theorem F9(w:World)(ga:Option Addr)(b o cap n:Nat)(xs:List Nat)(hl:xs.length=n)(hn:n<=1073741824)(hR:Rep w ga b o cap xs)(hd:gZ xs):
  Calls Tryz.prog 46 #[.slice ga n cap] w fun e w'=>∃ k:Nat,e=.returned (.int .i64 (k:Int))/\k<=32*n/\val xs<2^k/\w'=w:=by
 by_cases h0:n=0
 ·have hb:((n:Int)==0)=true:=by rw[h0];rfl
  go_enter Tryz.func46,Tryz.ntmps46
  go_wp2
  go_ret
  refine⟨0,ax rfl,by omega,?_,rfl⟩
  rw[List.length_eq_zero_iff.1 (hl.trans h0)]
  simp[val]
 ·have hb:((n:Int)==0)=false:=by rw[beq_eq_false_iff_ne];omega
  obtain rfl:=hR.head (by omega)
  obtain⟨x,HX⟩:∃ x:Nat,Hid (x=xs.getD (n-1) 0):=⟨_,rfl⟩
  have hx32:x<4294967296:=by rw[HX.out];exact hd _
  obtain⟨m,hm⟩:∃ m,n=m+1:=⟨n-1,by omega⟩
  have cx:w.cell? ⟨b,o+m,none⟩=some (.int .u64 (x:Int)):=by
   have e:m=n-1:=by omega
   rw[HX.out,e];exact hR.cell (n-1) (by omega)
  have em:(n:Int)-1=(m:Int):=by omega
  have HM:=hide hm
  have hmn:m<n:=by omega
  clear hm
  go_enter Tryz.func46,Tryz.ntmps46
  go_wp2
  go_loop [3,4] (fun c d=>∃ t q:Nat,c=.int .i64 (32*(m:Int)+(t:Int))/\d=.int .u64 (q:Int)/\q<4294967296/\t<=32/\Hid (x/2^t=q)) (fun _ d=>(intOf d).toNat)
  case atStart=>exact⟨0,x,by go_num,rfl,hx32,by omega,by show x/2^0=x;simp⟩
  case round=>
   obtain⟨t,q,rfl,rfl,hq,ht,hT⟩:=hrel
   by_cases hp:0<q
   ·have hr:=Dl hT.out hp hx32
    have H2:=hide (Dm hT.out)
    go_wp2
    exact⟨⟨t+1,q/2,by go_num,by go_num,by omega,by omega,H2⟩,by simp[intOf];omega⟩
   ·obtain rfl:q=0:=by omega
    have he:=hide (Ha hT.out)
    go_wp2
    go_ret
    refine⟨32*m+t,ax (by omega),by omega,?_,rfl⟩
    have:=Ge hd (by omega) (t:=t) (by rw[hl, <-HX.out];exact ae he)
    rw[show 32*m+t=32*(xs.length-1)+t from by have:=ae HM;omega]
    exact this
set_option maxRecDepth 100000 in
set_option maxHeartbeats 800000 in
theorem J1(w:World)(ga:Option Addr)(b o cap n i:Nat)(xs:List Nat)(hl:xs.length=n)(hn:n<=1073741824)(hi:i<32*n)(hR:Rep w ga b o cap xs)(hd:gZ xs):
  Calls Tryz.prog 48 #[.slice ga n cap,.int .i64 (i:Int)] w fun e w'=>e=.returned (.int .u64 ((val xs/2^i%2:Nat):Int))/\w'=w:=by
 obtain rfl:=hR.head (by omega)
 have hb:=NF hd i
 have hc:=hR.cell (i/32) (by omega)
 have hx:=hd (i/32)
 generalize val xs/2^i%2=r at *
 generalize xs.getD (i/32) 0=x at *
 have ej:(i:Int)/32=((i/32:Nat):Int):=by omega
 have et:(i:Int)%32=((i%32:Nat):Int):=by omega
 have hj:i/32<n:=by omega
 have ht:i%32<32:=by omega
 generalize i/32=j at *
 generalize i%32=t at *
 have es:=fR x t
 have hy:x/2^t<4294967296:=Nat.lt_of_le_of_lt (Nat.div_le_self _ _) hx
 have hm:=bits_and_u64_nat (x/2^t) 1 (by omega) (by omega)
 have e1:x/2^t&&& 1=x/2^t%2:=Nat.and_one_is_mod _
 rw[e1,hb]at hm
 clear hb e1
 generalize x/2^t=y at *
 go_enter Tryz.func48,Tryz.ntmps48
 go_wp2
 go_ret
 exact⟨ax hm,rfl⟩
end Go.Proofs.YtpdpnomocbehkaaGreatDoor
