/- Len64 and LeadingZeros64 of math/bits, walked over this program. -/
import Derived.Test.YtgcnhfgpflncaaaGreatDoorB3
import Derived.Lib.BitFns
import Derived.Lib.Small
import Derived.Lib.Walk
namespace Go.Proofs.YtgcnhfgpflncaaaGreatDoor
open Go.RowKit
theorem MD(t:ByteArray)(n:Nat)(h:n<t.size):((t[n]'h).toNat:Int)=(((t[n]?).getD 0).toNat:Int):=by
 rw[getElem?_pos t n h];rfl
theorem fo(y:Int):(((Lib.len8tab[y.toNat]?).getD 0).toNat:Int)=Lib.len8 y:=by rw[Lib.len8]
theorem gU(T:ByteArray)(x y:Int)(k K:Nat)(h0:0<=y)(h1:y<256)(hb:y.toNat<T.size)(hT:(((T[y.toNat]?).getD 0).toNat:Int)=Lib.len8 y)(hk:k<=56)(e:y.toNat=x.toNat/K)(hs:Lib.bitLen x.toNat=k+Lib.bitLen (x.toNat/K)):
  wrap64 ((k:Int)+wrap64 ((T[y.toNat]'hb).toNat:Int))=(Lib.bitLen x.toNat:Int):=by
 have l:=Lib.bitLen_le8' y h0 (by omega)
 rw[MD,hT,Lib.len8_of y h0 (by omega),hs, <-e]
 clear hs hT e
 generalize Lib.bitLen y.toNat=L at *
 unfold wrap64
 omega
set_option maxHeartbeats 4000000 in
set_option maxRecDepth 100000 in
theorem km(x:Int)(w:World)(h0:0<=x)(h1:x<18446744073709551616):
  Calls Tryz.prog 50 #[.int .u64 x] w fun e w'=>e=.returned (.int .i64 (Lib.bitLen x.toNat))/\w'=w:=by
 have hsz:(Lib.len8tab.size:Int)=256:=by rw[Lib.len8tab_size];rfl
 go_enter Tryz.func50,Tryz.ntmps50
 go_wp2
 ·go_ret
  exact⟨ax (gU Lib.len8tab x _ 56 72057594037927936 (by omega) (by omega) _ (fo _) (by omega) (by omega) (Lib.bitLen_shift56 x.toNat (by omega) (by omega))),rfl⟩
 ·go_ret
  exact⟨ax (gU Lib.len8tab x _ 48 281474976710656 (by omega) (by omega) _ (fo _) (by omega) (by omega) (Lib.bitLen_shift48 x.toNat (by omega) (by omega))),rfl⟩
 ·go_ret
  exact⟨ax (gU Lib.len8tab x _ 40 1099511627776 (by omega) (by omega) _ (fo _) (by omega) (by omega) (Lib.bitLen_shift40 x.toNat (by omega) (by omega))),rfl⟩
 ·go_ret
  exact⟨ax (gU Lib.len8tab x _ 32 4294967296 (by omega) (by omega) _ (fo _) (by omega) (by omega) (Lib.bitLen_shift32 x.toNat (by omega) (by omega))),rfl⟩
 ·go_ret
  exact⟨ax (gU Lib.len8tab x _ 24 16777216 (by omega) (by omega) _ (fo _) (by omega) (by omega) (Lib.bitLen_shift24 x.toNat (by omega) (by omega))),rfl⟩
 ·go_ret
  exact⟨ax (gU Lib.len8tab x _ 16 65536 (by omega) (by omega) _ (fo _) (by omega) (by omega) (Lib.bitLen_shift16 x.toNat (by omega) (by omega))),rfl⟩
 ·go_ret
  exact⟨ax (gU Lib.len8tab x _ 8 256 (by omega) (by omega) _ (fo _) (by omega) (by omega) (Lib.bitLen_shift8 x.toNat (by omega) (by omega))),rfl⟩
 ·go_ret
  have hw:=gU Lib.len8tab x x 0 1 (by omega) (by omega) (by rw[Lib.len8tab_size];omega) (fo _) (by omega) (by omega) (by simp)
  exact⟨ax (by simpa using hw),rfl⟩
theorem eG:∀(n x:Nat),x<2^n->x<2^64->0<x->1<=Lib.bitLen x/\Lib.bitLen x<=n/\2^(Lib.bitLen x-1)<=x/\x<2^Lib.bitLen x
 |0,x,h,_,h0=>by simp at h;omega
 |n+1,x,h,h64,h0=>by
  have e:=Lib.bitLen_half x (by omega) h64
  rw[e]
  by_cases h2:x/2=0
  ·have:x=1:=by omega
   subst this
   have e0:Lib.bitLen (1/2)=0:=by decide+kernel
   rw[e0];simp
  ·obtain⟨a,b,c,d⟩:=eG n (x/2) (by rw[Nat.pow_succ]at h;omega) (by omega) (by omega)
   generalize Lib.bitLen (x/2)=L at a b c d ⊢
   obtain⟨k,rfl⟩:∃ k,L=k+1:=⟨L-1,by omega⟩
   simp only[Nat.add_sub_cancel]at c
   refine⟨by omega,by omega,?_,?_⟩
   ·rw[show 1+(k+1)-1=k+1 from by omega,Nat.pow_succ];omega
   ·rw[show 1+(k+1)=k+1+1 from by omega,Nat.pow_succ];omega
set_option maxHeartbeats 400000 in
theorem yY(x:Int)(w:World)(h0:0<x)(h1:x<18446744073709551616):
  Calls Tryz.prog 96 #[.int .u64 x] w fun e w'=>∃ s:Nat,e=.returned (.int .i64 (s:Int))/\s<=63/\9223372036854775808<=x.toNat*2^s/\x.toNat*2^s<18446744073709551616/\w'=w:=by
 obtain⟨b1,b2,b3,b4⟩:=eG 64 x.toNat (by omega) (by omega) (by omega)
 generalize hL:Lib.bitLen x.toNat=L at *
 have HL:=hide hL
 have B3:=hide b3
 have B4:=hide b4
 clear hL b3 b4
 go_enter Tryz.func96,Tryz.ntmps96
 go_wp2_with fail
 refine(km x _ (by omega) h1).mono ?_
 rintro e w' ⟨rfl,rfl⟩
 rw[HL.out]
 go_wp2
 go_ret
 have e1:2^(L-1)*2^(64-L)=(9223372036854775808:Nat):=by rw[<-Nat.pow_add,show L-1+(64-L)=63 from by omega]
 have e2:2^L*2^(64-L)=(18446744073709551616:Nat):=by rw[<-Nat.pow_add,show L+(64-L)=64 from by omega]
 have p:0<2^(64-L):=Nat.pow_pos (by omega)
 have g1:2^(L-1)*2^(64-L)<=x.toNat*2^(64-L):=Nat.mul_le_mul_right _ B3.out
 have g2:x.toNat*2^(64-L)<2^L*2^(64-L):=Nat.mul_lt_mul_of_pos_right B4.out p
 exact⟨64-L,ax (by omega),by omega,by omega,by omega,rfl⟩
end Go.Proofs.YtgcnhfgpflncaaaGreatDoor
