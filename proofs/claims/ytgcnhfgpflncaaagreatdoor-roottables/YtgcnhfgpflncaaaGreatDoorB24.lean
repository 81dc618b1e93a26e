/- Mul64 of math/bits and package word's Mul, walked over this program; division of two words by one. -/
import Derived.Test.YtgcnhfgpflncaaaGreatDoorB21
import Derived.Lib.Mul64
namespace Go.Proofs.YtgcnhfgpflncaaaGreatDoor
open Go.RowKit
theorem xz(x y:Nat):x*y=(x/4294967296)*(y/4294967296)*18446744073709551616+((x/4294967296)*(y%4294967296)+(x%4294967296)*(y/4294967296))*4294967296+(x%4294967296)*(y%4294967296):=by
 have h:=Lib.split_mul (x/4294967296) (x%4294967296) (y/4294967296) (y%4294967296) 4294967296
 rw[Nat.div_add_mod' x 4294967296,Nat.div_add_mod' y 4294967296]at h
 exact h
set_option maxRecDepth 100000 in
set_option maxHeartbeats 1600000 in
theorem ij(x y:Nat)(w:World)(hx:x<18446744073709551616)(hy:y<18446744073709551616):
  Calls Tryz.prog 174 #[.int .u64 (x:Int),.int .u64 (y:Int)] w fun e w'=>e=.returned (.tuple #[.int .u64 ((x*y/18446744073709551616:Nat):Int),.int .u64 ((x*y%18446744073709551616:Nat):Int)])/\w'=w:=by
 have hs:=xz x y
 have ex0:=l9 x hx
 have ey0:=l9 y hy
 have ex1:(x:Int)/4294967296=((x/4294967296:Nat):Int):=by omega
 have ey1:(y:Int)/4294967296=((y/4294967296:Nat):Int):=by omega
 have b00:=Lib.half_mul_le (a:=x%4294967296) (b:=y%4294967296) (by omega) (by omega)
 have b10:=Lib.half_mul_le (a:=x/4294967296) (b:=y%4294967296) (by omega) (by omega)
 have b01:=Lib.half_mul_le (a:=x%4294967296) (b:=y/4294967296) (by omega) (by omega)
 have b11:=Lib.half_mul_le (a:=x/4294967296) (b:=y/4294967296) (by omega) (by omega)
 have e00:((x%4294967296:Nat):Int)*((y%4294967296:Nat):Int)=(((x%4294967296)*(y%4294967296):Nat):Int):=(Int.natCast_mul _ _).symm
 have e10:((x/4294967296:Nat):Int)*((y%4294967296:Nat):Int)=(((x/4294967296)*(y%4294967296):Nat):Int):=(Int.natCast_mul _ _).symm
 have e01:((x%4294967296:Nat):Int)*((y/4294967296:Nat):Int)=(((x%4294967296)*(y/4294967296):Nat):Int):=(Int.natCast_mul _ _).symm
 have e11:((x/4294967296:Nat):Int)*((y/4294967296:Nat):Int)=(((x/4294967296)*(y/4294967296):Nat):Int):=(Int.natCast_mul _ _).symm
 have eP:(x:Int)*(y:Int)=((x*y:Nat):Int):=(Int.natCast_mul _ _).symm
 generalize (x%4294967296)*(y%4294967296)=p00 at *
 generalize (x/4294967296)*(y%4294967296)=p10 at *
 generalize (x%4294967296)*(y/4294967296)=p01 at *
 generalize (x/4294967296)*(y/4294967296)=p11 at *
 generalize x/4294967296=x1 at *
 generalize y/4294967296=y1 at *
 generalize x%4294967296=x0 at *
 generalize y%4294967296=y0 at *
 obtain⟨t,ht⟩:∃ t:Nat,t=p10+p00/4294967296:=⟨_,rfl⟩
 have htb:t<18446744073709551616:=by omega
 have et:(p10:Int)+(p00:Int)/4294967296=(t:Int):=by omega
 have em:=l9 t htb
 have hhi:p11+t/4294967296+(t%4294967296+p01)/4294967296=x*y/18446744073709551616:=by omega
 have hm:t%4294967296<4294967296:=by omega
 generalize t%4294967296=tm at *
 generalize hPP:x*y=P at *
 generalize hqq:P/18446744073709551616=Qf at *
 generalize hrr:P%18446744073709551616=Rf at *
 have H1:=hide hhi
 have H2:=hide hrr
 have H4:=hide hs
 have H5:=hide hqq
 clear hhi hrr hs hqq hPP ht
 go_enter Tryz.func174,Tryz.ntmps174
 go_wp2
 go_ret2
 exact⟨bF (by have:=ae H1;have:=ae H5;omega) (by have:=ae H2;rw[IntKind.wrap_u64];omega),rfl⟩
end Go.Proofs.YtgcnhfgpflncaaaGreatDoor
