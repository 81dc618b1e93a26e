import Derived.Test.YtkdmippllpekfaaGreatDoorB3
import Derived.Lib.BitFns
import Derived.Lib.Small
import Derived.Lib.Walk
namespace Go.Proofs.YtkdmippllpekfaaGreatDoor
set_option maxRecDepth 100000
set_option maxHeartbeats 4000000
open Go.RowKit
theorem aaQ(t:ByteArray)(n:Nat)(h:n<t.size):((t[n]'h).toNat:Int)=(((t[n]?).getD 0).toNat:Int):=by rw[getElem?_pos t n h];rfl
theorem ni(y:Int):(((Lib.len8tab[y.toNat]?).getD 0).toNat:Int)=Lib.len8 y:=by rw[Lib.len8]
theorem pH(T:ByteArray)(x y:Int)(k K:Nat)(h0:0<=y)(h1:y<256)(hb:y.toNat<T.size)(hT:(((T[y.toNat]?).getD 0).toNat:Int)=Lib.len8 y)(hk:k<=56)(e:y.toNat=x.toNat/K)(hs:Lib.bitLen x.toNat=k+Lib.bitLen (x.toNat/K)):wrap64 ((k:Int)+wrap64 ((T[y.toNat]'hb).toNat:Int))=(Lib.bitLen x.toNat:Int):=by
 have l:=Lib.bitLen_le8' y h0 (by omega);rw[aaQ,hT,Lib.len8_of y h0 (by omega),hs, <-e];clear hs hT e;generalize Lib.bitLen y.toNat=L at *;unfold wrap64;omega
theorem qJ(x:Int)(w:World)(h0:0<=x)(h1:x<18446744073709551616):Calls Tryz.prog 54 #[.int .u64 x] w fun e w'=>e=.returned (.int .i64 (Lib.bitLen x.toNat))/\w'=w:=by
 have kF:(Lib.len8tab.size:Int)=256:=by rw[Lib.len8tab_size];rfl
 go_enter Tryz.func54,Tryz.ntmps54;go_wp2
 ·go_ret;exact⟨bY (pH Lib.len8tab x _ 56 72057594037927936 (by omega) (by omega) _ (ni _) (by omega) (by omega) (Lib.bitLen_shift56 x.toNat (by omega) (by omega))),rfl⟩
 ·go_ret;exact⟨bY (pH Lib.len8tab x _ 48 281474976710656 (by omega) (by omega) _ (ni _) (by omega) (by omega) (Lib.bitLen_shift48 x.toNat (by omega) (by omega))),rfl⟩
 ·go_ret;exact⟨bY (pH Lib.len8tab x _ 40 1099511627776 (by omega) (by omega) _ (ni _) (by omega) (by omega) (Lib.bitLen_shift40 x.toNat (by omega) (by omega))),rfl⟩
 ·go_ret;exact⟨bY (pH Lib.len8tab x _ 32 4294967296 (by omega) (by omega) _ (ni _) (by omega) (by omega) (Lib.bitLen_shift32 x.toNat (by omega) (by omega))),rfl⟩
 ·go_ret;exact⟨bY (pH Lib.len8tab x _ 24 16777216 (by omega) (by omega) _ (ni _) (by omega) (by omega) (Lib.bitLen_shift24 x.toNat (by omega) (by omega))),rfl⟩
 ·go_ret;exact⟨bY (pH Lib.len8tab x _ 16 65536 (by omega) (by omega) _ (ni _) (by omega) (by omega) (Lib.bitLen_shift16 x.toNat (by omega) (by omega))),rfl⟩
 ·go_ret;exact⟨bY (pH Lib.len8tab x _ 8 256 (by omega) (by omega) _ (ni _) (by omega) (by omega) (Lib.bitLen_shift8 x.toNat (by omega) (by omega))),rfl⟩
 ·go_ret;have hw:=pH Lib.len8tab x x 0 1 (by omega) (by omega) (by rw[Lib.len8tab_size];omega) (ni _) (by omega) (by omega) (by simp);exact⟨bY (by simpa using hw),rfl⟩
theorem jQ:∀(n x:Nat),x<2^n->x<2^64->0<x->1<=Lib.bitLen x/\Lib.bitLen x<=n/\2^(Lib.bitLen x-1)<=x/\x<2^Lib.bitLen x
 |0,x,h,_,h0=>by simp at h;omega
 |n+1,x,h,h64,h0=>by
  have e:=Lib.bitLen_half x (by omega) h64;rw[e];by_cases h2:x/2=0
  ·have:x=1:=(by omega);subst this;have e0:Lib.bitLen (1/2)=0:=(by decide+kernel);rw[e0];simp
  ·obtain⟨a,b,c,d⟩:=jQ n (x/2) (by rw[aE]at h;omega) (by omega) (by omega);generalize Lib.bitLen (x/2)=L at a b c d ⊢;obtain⟨k,rfl⟩:∃k,L=k+1:=⟨L-1,by omega⟩;simp only[Nat.add_sub_cancel]at c;refine⟨by omega,by omega,?_,?_⟩
   ·rw[show 1+(k+1)-1=k+1 from by omega,aE];omega
   ·rw[show 1+(k+1)=k+1+1 from by omega,aE];omega
theorem NC(x:Int)(w:World)(h0:0<x)(h1:x<18446744073709551616):Calls Tryz.prog 102 #[.int .u64 x] w fun e w'=>∃s:Nat,e=.returned (.int .i64 (s:Int))/\s<=63/\9223372036854775808<=x.toNat*2^s/\x.toNat*2^s<18446744073709551616/\w'=w:=by
 obtain⟨b1,b2,b3,b4⟩:=jQ 64 x.toNat (by omega) (by omega) (by omega);generalize hL:Lib.bitLen x.toNat=L at *;have HL:=ag hL;have B3:=ag b3;have B4:=ag b4;clear hL b3 b4;go_enter Tryz.func102,Tryz.ntmps102
 go_wp2_with fail
 refine(qJ x _ (by omega) h1).mono ?_;rintro e w' ⟨rfl,rfl⟩;rw[HL.out];go_wp2;go_ret;have e1:2^(L-1)*2^(64-L)=(9223372036854775808:Nat):=by rw[<-aQ,show L-1+(64-L)=63 from by omega]
 have e2:2^L*2^(64-L)=(18446744073709551616:Nat):=by rw[<-aQ,show L+(64-L)=64 from by omega]
 have p:0<2^(64-L):=bR (by omega);have g1:2^(L-1)*2^(64-L)<=x.toNat*2^(64-L):=ax _ B3.out;have g2:x.toNat*2^(64-L)<2^L*2^(64-L):=fb B4.out p;exact⟨64-L,bY (by omega),by omega,by omega,by omega,rfl⟩
end Go.Proofs.YtkdmippllpekfaaGreatDoor
