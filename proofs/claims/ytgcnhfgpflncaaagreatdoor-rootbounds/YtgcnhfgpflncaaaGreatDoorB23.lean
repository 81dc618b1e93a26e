/- Bits and bit: binary digits of a natural. -/
import Derived.Test.YtgcnhfgpflncaaaGreatDoorB3
import Derived.Test.YtgcnhfgpflncaaaGreatDoorB10
namespace Go.Proofs.YtgcnhfgpflncaaaGreatDoor
open Go.RowKit
theorem PL(k:Nat):4294967296^k=2^(32*k):=by rw[Nat.pow_mul]
theorem FV{xs:List Nat}(hd:js xs)(hl:0<xs.length){t:Nat}(h:xs.getD (xs.length-1) 0<2^t):val xs<2^(32*(xs.length-1)+t):=by
 have h1:=aD xs (xs.length-1)
 rw[show xs.length-1+1=xs.length from by omega,List.take_length]at h1
 have h2:=uo hd (xs.length-1)
 rw[h1,Nat.pow_add, <-PL]
 have h3:4294967296^(xs.length-1)*(xs.getD (xs.length-1) 0+1)<=4294967296^(xs.length-1)*2^t:=Nat.mul_le_mul_left _ h
 rw[Nat.mul_add]at h3
 omega
theorem BV{x q t:Nat}(h:x/2^t=q):x/2^(t+1)=q/2:=by
 rw[Nat.pow_succ, <-Nat.div_div_eq_div_mul,h]
theorem GO{x t:Nat}(h:x/2^t=0):x<2^t:=by
 rcases Nat.div_eq_zero_iff.1 h with h|h
 ·have:0<2^t:=Nat.pow_pos (by omega)
  omega
 ·exact h
theorem BU{x q t:Nat}(h:x/2^t=q)(hq:0<q)(hx:x<4294967296):t<32:=by
 refine Nat.lt_of_not_le fun ht=>?_
 have h1:2^32<=2^t:=Nat.pow_le_pow_right (by omega) ht
 have:x/2^t=0:=Nat.div_eq_of_lt (by omega)
 omega
set_option maxHeartbeats 800000 in
theorem FU(w:World)(ga:Option Addr)(b o cap n:Nat)(xs:List Nat)(hl:xs.length=n)(hn:n<=1073741824)(hR:Rep w ga b o cap xs)(hd:js xs):
  Calls Tryz.prog 46 #[.slice ga n cap] w fun e w'=>∃ k:Nat,e=.returned (.int .i64 (k:Int))/\k<=32*n/\val xs<2^k/\w'=w:=by
 by_cases h0:n=0
 ·have hb:((n:Int)==0)=true:=by rw[h0];rfl
  go_enter Tryz.func46,Tryz.ntmps46
  go_wp2
  go_ret
  refine⟨0,ax rfl,by omega,?_,rfl⟩
  rw[List.length_eq_zero_iff.1 (hl.trans h0)]
  simp[val]
 ·have hb:((n:Int)==0)=false:=by rw[beq_eq_false_iff_ne];omega
  obtain rfl:=hR.head (by omega)
  obtain⟨x,HX⟩:∃ x:Nat,Hid (x=xs.getD (n-1) 0):=⟨_,rfl⟩
  have hx32:x<4294967296:=by rw[HX.out];exact hd _
  obtain⟨m,hm⟩:∃ m,n=m+1:=⟨n-1,by omega⟩
  have cx:w.cell? ⟨b,o+m,none⟩=some (.int .u64 (x:Int)):=by
   have e:m=n-1:=by omega
   rw[HX.out,e];exact hR.cell (n-1) (by omega)
  have em:(n:Int)-1=(m:Int):=by omega
  have HM:=hide hm
  have hmn:m<n:=by omega
  clear hm
  go_enter Tryz.func46,Tryz.ntmps46
  go_wp2
  go_loop [3,4] (fun c d=>∃ t q:Nat,c=.int .i64 (32*(m:Int)+(t:Int))/\d=.int .u64 (q:Int)/\q<4294967296/\t<=32/\Hid (x/2^t=q)) (fun _ d=>(intOf d).toNat)
  case atStart=>exact⟨0,x,by go_num,rfl,hx32,by omega,by show x/2^0=x;simp⟩
  case round=>
   obtain⟨t,q,rfl,rfl,hq,ht,hT⟩:=hrel
   by_cases hp:0<q
   ·have hr:=BU hT.out hp hx32
    have H2:=hide (BV hT.out)
    go_wp2
    exact⟨⟨t+1,q/2,by go_num,by go_num,by omega,by omega,H2⟩,by simp[intOf];omega⟩
   ·obtain rfl:q=0:=by omega
    have he:=hide (GO hT.out)
    go_wp2
    go_ret
    refine⟨32*m+t,ax (by omega),by omega,?_,rfl⟩
    have:=FV hd (by omega) (t:=t) (by rw[hl, <-HX.out];exact ae he)
    rw[show 32*m+t=32*(xs.length-1)+t from by have:=ae HM;omega]
    exact this
end Go.Proofs.YtgcnhfgpflncaaaGreatDoor
