import Derived.Test.YtkdmippllpekfaaGreatDoorB10
import Derived.Test.YtkdmippllpekfaaGreatDoorB7
namespace Go.Proofs.YtkdmippllpekfaaGreatDoor
set_option maxHeartbeats 1600000
open Go.RowKit
def tfT(n m ways:Int):Int:=
 if 1<=n/\n<=16384/\1<=m/\m<=16384/\0<=ways/\ways<=3 then (tf n.toNat m.toNat ways.toNat:Int) else 0
theorem aaR{n m ways:Int}(h:¬(1<=n/\n<=16384/\1<=m/\m<=16384/\0<=ways/\ways<=3)):tfT n m ways=0:=by unfold tfT;rw[aV h]
theorem Qb{n m ways:Nat}(h1:1<=n)(h2:n<=16384)(h3:1<=m)(h4:m<=16384)(h5:ways<=3):tfT (n:Int) (m:Int) (ways:Int)=(tf n m ways:Int):=by unfold tfT;rw[aW (by omega)];simp
theorem Fe(s:Nat)(h:2<=s)(h2:s<=32768):Lib.bitLen (s-1)=lg s/\1<=lg s/\lg s<=15:=by obtain⟨a,b,c,d⟩:=jQ 15 (s-1) (by omega) (by omega) (by omega);have e:=R8 (s:=s) (L:=Lib.bitLen (s-1)) (by omega) (Or.inr (by omega));exact⟨e,by omega,by omega⟩
theorem ti(x:Int)(w:World)(h0:0<=x)(h1:x<18446744073709551616):Calls Tryz.prog 78 #[.int .u64 x] w fun e w'=>e=.returned (.int .i64 (Lib.bitLen x.toNat))/\w'=w:=by
 go_enter Tryz.func78,Tryz.ntmps78
 go_wp2_with (go_at_call 54;refine(qJ _ _ (by omega) (by omega)).mono ?_;rintro e w' ⟨rfl,rfl⟩)
 go_ret;exact⟨rfl,rfl⟩
theorem Ys:∀(L:Fin 16) (ways:Fin 4),wrap64 (wrap64 (3*wrap64 (wrap64 (wrap64 ((ways.val:Int)*wrap64 ((wrap64 (2^L.val)).tdiv 2))*(L.val:Int))+wrap64 (2*wrap64 (2^L.val))))+wrap64 (6*wrap64 (2^L.val)))=((3*(ways.val*(2^L.val/2)*L.val+2*2^L.val)+6*2^L.val:Nat):Int):=by decide+kernel
theorem aaU{L ways:Nat}(h1:L<=15)(h2:ways<=3):wrap64 (wrap64 (3*wrap64 (wrap64 (wrap64 ((ways:Int)*wrap64 ((wrap64 (2^L)).tdiv 2))*(L:Int))+wrap64 (2*wrap64 (2^L))))+wrap64 (6*wrap64 (2^L)))=((3*(ways*(2^L/2)*L+2*2^L)+6*2^L:Nat):Int):=
 Ys ⟨L,by omega⟩ ⟨ways,by omega⟩
theorem Dj(n m ways:Nat)(w:World)(h1:1<=n)(h2:n<=16384)(h3:1<=m)(h4:m<=16384)(h5:ways<=3):Calls Tryz.prog 162 #[.int .i64 (n:Int),.int .i64 (m:Int),.int .i64 (ways:Int)] w fun e w'=>e=.returned (.int .i64 (tf n m ways:Int))/\w'=w:=by
 obtain⟨l1,l2,l3⟩:=Fe (n+m) (by omega) (by omega);have CL:Hid (∀w,Calls Tryz.prog 78 #[.int .u64 ((n:Int)+(m:Int)-1)] w fun e w'=>e=.returned (.int .i64 (lg (n+m):Int))/\w'=w):=fun w=>by have:=ti ((n:Int)+(m:Int)-1) w (by omega) (by omega);rwa [show((n:Int)+(m:Int)-1).toNat=n+m-1 from by omega,l1]at this
 unfold tf tfL;generalize lg (n+m)=L at *;clear l1;go_enter Tryz.func162,Tryz.ntmps162
 go_wp2_with (first|(go_at_call 170;refine(zT _ _ (by omega) (by omega)).mono ?_;rintro e w' ⟨rfl,rfl⟩)|(go_at_call 78;refine(ae CL _).mono ?_;rintro e w' ⟨rfl,rfl⟩))
 go_ret;exact⟨bY (aaU l3 h5),rfl⟩
theorem Eh(n m ways:Int)(w:World)(h:¬(1<=n/\n<=16384/\1<=m/\m<=16384/\0<=ways/\ways<=3)):Calls Tryz.prog 162 #[.int .i64 n,.int .i64 m,.int .i64 ways] w fun e w'=>e=.returned (.int .i64 0)/\w'=w:=by
 have H:n<1\/(1<=n/\16384<n)\/(1<=n/\n<=16384/\m<1)\/(1<=n/\n<=16384/\1<=m/\16384<m)\/(1<=n/\n<=16384/\1<=m/\m<=16384/\ways<0)\/(1<=n/\n<=16384/\1<=m/\m<=16384/\3<ways):=by omega
 clear h;rcases H with h|⟨h1,h⟩|⟨h1,h2,h⟩|⟨h1,h2,h3,h⟩|⟨h1,h2,h3,h4,h⟩|⟨h1,h2,h3,h4,h⟩
 all_goals
  go_enter Tryz.func162,Tryz.ntmps162;go_wp2
  all_goals
   go_ret;exact⟨rfl,rfl⟩
theorem Di(n m ways:Int)(w:World):Calls Tryz.prog 162 #[.int .i64 n,.int .i64 m,.int .i64 ways] w fun e w'=>e=.returned (.int .i64 (tfT n m ways))/\w'=w:=by
 by_cases h:1<=n/\n<=16384/\1<=m/\m<=16384/\0<=ways/\ways<=3
 ·obtain⟨h1,h2,h3,h4,h5,h6⟩:=h;obtain⟨n,rfl⟩:=dP (show 0<=n by omega);obtain⟨m,rfl⟩:=dP (show 0<=m by omega);obtain⟨ways,rfl⟩:=dP h5;rw[Qb (by omega) (by omega) (by omega) (by omega) (by omega)];exact Dj n m ways w (by omega) (by omega) (by omega) (by omega) (by omega)
 ·rw[aaR h];exact Eh n m ways w h
end Go.Proofs.YtkdmippllpekfaaGreatDoor
