/- Add64 and Sub64 of math/bits, for which the model stands in. -/
import Derived.Test.YtgcnhfgpflncaaaGreatDoorB24
import Derived.Laws.Externs
namespace Go.Proofs.YtgcnhfgpflncaaaGreatDoor
open Go.RowKit
theorem eE(x y:Nat)(w:World):
  (callFunc 126 #[.int .u64 (x:Int),.int .u64 (y:Int),.int .u64 ((0:Nat):Int)]).run Tryz.prog w=
   .ok (.value (.tuple #[.int .u64 (((x+y+0)%18446744073709551616:Nat):Int),.int .u64 (((x+y+0)/18446744073709551616:Nat):Int)])) w:=by kernel_rfl
theorem oP(x y:Nat)(w:World):
  (callFunc 126 #[.int .u64 (x:Int),.int .u64 (y:Int),.int .u64 ((1:Nat):Int)]).run Tryz.prog w=
   .ok (.value (.tuple #[.int .u64 (((x+y+1)%18446744073709551616:Nat):Int),.int .u64 (((x+y+1)/18446744073709551616:Nat):Int)])) w:=by kernel_rfl
theorem lr(x y:Nat)(w:World):
  (callFunc 109 #[.int .u64 (x:Int),.int .u64 (y:Int),.int .u64 ((0:Nat):Int)]).run Tryz.prog w=
   .ok (.value (.tuple #[.int .u64 (((x+18446744073709551616-y-0)%18446744073709551616:Nat):Int),.int .u64 ((if x<y+0 then 1 else 0:Nat):Int)])) w:=by kernel_rfl
theorem qb(x y:Nat)(w:World):
  (callFunc 109 #[.int .u64 (x:Int),.int .u64 (y:Int),.int .u64 ((1:Nat):Int)]).run Tryz.prog w=
   .ok (.value (.tuple #[.int .u64 (((x+18446744073709551616-y-1)%18446744073709551616:Nat):Int),.int .u64 ((if x<y+1 then 1 else 0:Nat):Int)])) w:=by kernel_rfl
theorem qU(x y c:Nat)(hc:c<=1)(w:World):
  (callFunc 126 #[.int .u64 (x:Int),.int .u64 (y:Int),.int .u64 (c:Int)]).run Tryz.prog w=
   .ok (.value (.tuple #[.int .u64 (((x+y+c)%18446744073709551616:Nat):Int),.int .u64 (((x+y+c)/18446744073709551616:Nat):Int)])) w:=by
 match c,hc with
 |0,_=>exact eE x y w
 |1,_=>exact oP x y w
theorem EN(x y c:Nat)(hc:c<=1)(w:World):
  (callFunc 109 #[.int .u64 (x:Int),.int .u64 (y:Int),.int .u64 (c:Int)]).run Tryz.prog w=
   .ok (.value (.tuple #[.int .u64 (((x+18446744073709551616-y-c)%18446744073709551616:Nat):Int),.int .u64 ((if x<y+c then 1 else 0:Nat):Int)])) w:=by
 match c,hc with
 |0,_=>exact lr x y w
 |1,_=>exact qb x y w
end Go.Proofs.YtgcnhfgpflncaaaGreatDoor
