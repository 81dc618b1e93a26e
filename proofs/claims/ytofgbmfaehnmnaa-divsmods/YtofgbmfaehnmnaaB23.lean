/- A region that draws its order, whose calls make memory and leave what was: one walk, in the order of the text. -/
import Derived.Test.YtofgbmfaehnmnaaB10
import Derived.Deep.QuietTactic
import Derived.BigQuiet
namespace Go.Proofs.Ytofgbmfaehnmnaa
open Go.RowKit

/-- A world in which all that was in W is as it was. -/
structure Old (W : World) where
  val : World
  old : Below W.heap.size W val

theorem old_some (W : World) : Nonempty (Old W) := ⟨⟨W, Below.refl _ _⟩⟩

theorem region_old {P : Program} {id : Nat} {Q : Exit → Act → World → Prop} {a : Act} {W : World} {l : List Oper} (hm : P.follows .mixedOrders = true) (hB : Region.lexB .any l.toArray = true)
    (h : wpQuiet P l.toArray (fun w' => ∃ u : Old W, w' = u.val) (fun a' => ∀ w', (∃ u : Old W, w' = u.val) → Q .normal a' w') l a) : (Code.region id l.toArray true).wp P Q a W :=
  wp_region_quiet (C := fun w' => ∃ u : Old W, w' = u.val) hm hB ⟨⟨W.drew, (Below.refl _ _).drew⟩, rfl⟩ (by simpa using h)

theorem Calls.old {P : Program} {f : FuncId} {args : Array Value} {W : World} {u : Old W} {v : Value} (h : Calls P f args u.val fun e w' => e = .returned v ∧ Below u.val.heap.size u.val w') :
    Calls P f args u.val fun e w'' => e = .returned v ∧ ∃ u' : Old W, w'' = u'.val :=
  h.mono fun _ w' ⟨he, hb⟩ => ⟨he, ⟨w', bstep u.old hb⟩, rfl⟩
theorem Calls.old_same {P : Program} {f : FuncId} {args : Array Value} {W : World} {u : Old W} {v : Value} (h : Calls P f args u.val fun e w' => e = .returned v ∧ w' = u.val) :
    Calls P f args u.val fun e w'' => e = .returned v ∧ ∃ u' : Old W, w'' = u'.val :=
  h.mono fun _ _ ⟨he, hb⟩ => ⟨he, u, hb⟩
theorem Old.cell {W : World} {p : Addr} {v : Value} (h : W.cell? p = some v) (u : Old W) : u.val.cell? p = some v := (u.old.cell (World.block_lt_of_cell? _ _ h)).trans h

end Go.Proofs.Ytofgbmfaehnmnaa
