/- Shl, Shr and Low of the reference, in general. -/
import Derived.Test.YtpdpnomocbehkaaGreatDoorB10
import Derived.Test.YtpdpnomocbehkaaGreatDoorB3
import Derived.Test.YtpdpnomocbehkaaGreatDoorB13
namespace Go.Proofs.YtpdpnomocbehkaaGreatDoor
open Go.RowKit
end Go.Proofs.YtpdpnomocbehkaaGreatDoor
/- ConvCarries:what the law's walk comes to,once the code's Carry is what the document asks. -/
namespace Go.Proofs.YtpdpnomocbehkaaGreatDoor
open Go.RowKit
def hv(T:Nat->Nat)(n:Nat):Nat->Nat
 |0=>0
 |c+1=>hv T n c*2^64+T (n-1-c)
end Go.Proofs.YtpdpnomocbehkaaGreatDoor
