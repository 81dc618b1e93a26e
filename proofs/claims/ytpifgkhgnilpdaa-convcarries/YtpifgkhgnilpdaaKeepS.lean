/- Same and Spoil of keep. -/
import Derived.Test.YtpifgkhgnilpdaaLRep
namespace Go.Proofs.Ytpifgkhgnilpdaa
open Go.RowKit

/-- A block's whole row. -/
theorem Blk.whole {w : World} {g n : Nat} {zs : List Nat} (h : Blk w g zs) (hn : zs.length = n) : Rep w (some ⟨g, 0, none⟩) g 0 n zs := by
  have := h.rep 0 n n (by omega) (Nat.le_refl _)
  rw [List.drop_zero, List.take_of_length_le (by omega)] at this
  exact this

set_option maxRecDepth 100000 in
set_option maxHeartbeats 1600000 in
theorem keepSame_any (w : World) (ga gb : Option Addr) (ba oa ca bb ob cb n : Nat) (xs : List Nat) (hx : xs.length = n) (hn : n ≤ 1073741824) (hA : Rep w ga ba oa ca xs) (hB : Rep w gb bb ob cb xs) :
    Calls Try.prog 23 #[.slice ga n ca, .slice gb n cb] w fun e w' => e = .returned (.bool true) ∧ Below w.heap.size w w' := by
  have q1 : ((n : Int) != (n : Int)) = false := by simp
  go_enter Try.func23, Try.ntmps23
  go_wp2
  go_loopw [5] (fun i wr => ∃ k : Nat, k ≤ n ∧ i = .int .i64 (k : Int) ∧ Below w.heap.size w wr) (fun i _ => n - (intOf i).toNat)
  case atStart => exact ⟨0, Nat.zero_le _, rfl, Below.refl _ _⟩
  case round =>
    obtain ⟨k, hk, rfl, hnx⟩ := hrel
    by_cases h1 : k < n
    · obtain rfl := hA.head (by omega)
      obtain rfl := hB.head (by omega)
      obtain ⟨x, hxe⟩ : ∃ x : Nat, x = xs.getD k 0 := ⟨_, rfl⟩
      have c1 : wr.cell? ⟨ba, oa + k, none⟩ = some (.int .u64 (x : Int)) := by rw [hxe]; exact (hnx.cell (by exact hA.lt (by omega))).trans (hA.cell k (by omega))
      have c2 : wr.cell? ⟨bb, ob + k, none⟩ = some (.int .u64 (x : Int)) := by rw [hxe]; exact (hnx.cell (by exact hB.lt (by omega))).trans (hB.cell k (by omega))
      have s2 : ((x : Int) != (x : Int)) = false := by simp
      clear hxe
      go_wp2
      go_quiet (fail)
      go_wp2
      exact ⟨⟨k + 1, by omega, by go_num, below_drewN hnx _⟩, by simp [intOf]; omega⟩
    · go_wp2
      go_ret
      exact ⟨rfl, hnx⟩

end Go.Proofs.Ytpifgkhgnilpdaa
