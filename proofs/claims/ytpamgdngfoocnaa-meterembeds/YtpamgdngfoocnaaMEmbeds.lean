/- MeterEmbeds: what the law's walk comes to. -/
import Derived.Test.YtpamgdngfoocnaaMWakes
import Derived.Test.YtpamgdngfoocnaaWithinK
import Derived.Test.YtpamgdngfoocnaaIRow
namespace Go.Proofs.Ytpamgdngfoocnaa
open Go.RowKit

/-- A meter within a greater struct, just laid, has spent nothing. -/
theorem met_box (w : World) (t : Nat) (v : Value) : Met (w.alloc (.cells #[.int .i64 0, .int .i64 0, .int .i64 0, v] t)) w.heap.size 0 0 0 0 := by
  have hk : (w.alloc (.cells #[.int .i64 0, .int .i64 0, .int .i64 0, v] t)).heap[w.heap.size]? = some (.cells #[.int .i64 0, .int .i64 0, .int .i64 0, v] t (0, 0)) := heap_alloc_new w _
  exact ⟨cell_of_row _ w.heap.size 0 _ t (0, 0) hk, cell_of_row _ w.heap.size 1 _ t (0, 0) hk, cell_of_row _ w.heap.size 2 _ t (0, 0) hk, frozen_of_row _ w.heap.size 0 _ _ hk, frozen_of_row _ w.heap.size 1 _ _ hk, frozen_of_row _ w.heap.size 2 _ _ hk⟩

theorem own_box (w : World) (t : Nat) (v u : Value) :
    Own w ((w.alloc (.cells #[.int .i64 0, .int .i64 0, .int .i64 0, v] t)).alloc (.cells #[.int .i64 0, .int .i64 0, .int .i64 0, u] t)) w.heap.size 0 0 0 0 ∧
    Own w ((w.alloc (.cells #[.int .i64 0, .int .i64 0, .int .i64 0, v] t)).alloc (.cells #[.int .i64 0, .int .i64 0, .int .i64 0, u] t)) (w.heap.size + 1) 0 0 0 0 := by
  have b1 : Below w.heap.size w (w.alloc (.cells #[.int .i64 0, .int .i64 0, .int .i64 0, v] t)) := (Below.refl _ _).alloc (Nat.le_refl _) _
  have b2 : Below (w.alloc (.cells #[.int .i64 0, .int .i64 0, .int .i64 0, v] t)).heap.size (w.alloc (.cells #[.int .i64 0, .int .i64 0, .int .i64 0, v] t)) ((w.alloc (.cells #[.int .i64 0, .int .i64 0, .int .i64 0, v] t)).alloc (.cells #[.int .i64 0, .int .i64 0, .int .i64 0, u] t)) := (Below.refl _ _).alloc (Nat.le_refl _) _
  have m2 := met_box (w.alloc (.cells #[.int .i64 0, .int .i64 0, .int .i64 0, v] t)) t u
  have e : (w.alloc (.cells #[.int .i64 0, .int .i64 0, .int .i64 0, v] t)).heap.size = w.heap.size + 1 := by simp
  rw [e] at m2
  exact ⟨⟨(met_box w t v).next b2, bstep b1 b2, Nat.le_refl _⟩, ⟨m2, bstep b1 b2, by omega⟩⟩

/-- A step of one meter leaves the other. -/
theorem Own.other {w W W' : World} {g o k q n : Nat} {s l m : Int} (h : Own w W g o s l m) (t : Touch k q n W W') (hk : w.heap.size ≤ k) (hne : g ≠ k) : Own w W' g o s l m :=
  ⟨Touch.met h.met t (Or.inl hne), Touch.below h.old t hk h.old.size, h.out⟩

set_option maxRecDepth 100000 in
set_option maxHeartbeats 6400000 in
theorem meterEmbeds_any (w : World) (ga : Option Addr) (b o len cap : Nat) (zs : Nat → Int) (hl : len ≤ 9223372036854775807) (hr : IRow w ga b o len zs) :
    Calls Try.prog 4 #[.slice ga len cap] w fun e w' => e = .returned (.bool true) ∧ Below w.heap.size w w' := by
  obtain ⟨oa, ob⟩ := own_box w 35 (.string ⟨#[97]⟩) (.string ⟨#[98]⟩)
  obtain ⟨g, hg⟩ : ∃ g, g = w.heap.size := ⟨_, rfl⟩
  go_enter Try.func4, Try.ntmps4
  go_wp2
  rw [← hg] at oa ob ⊢
  have hgo : w.heap.size ≤ g := by omega
  clear hg
  go_loopw [5, 6] (fun s i wr => ∃ (k t : Nat), k ≤ len ∧ k ≤ 100 ∧ t ≤ 1000 * k ∧ i = .int .i64 (k : Int) ∧ s = .int .i64 (t : Int) ∧ Own w wr g 0 (t : Int) (k : Int) (k : Int) ∧ Own w wr (g + 1) 0 0 0 0) (fun _ i _ => 100 - (intOf i).toNat)
  case atStart => exact ⟨0, 0, Nat.zero_le _, by omega, by omega, rfl, rfl, oa, ob⟩
  case round =>
    clear oa ob
    obtain ⟨k, s, hk, hk1, hs, rfl, rfl, oa, ob⟩ := hrel
    by_cases h1 : (k : Int) < (len : Int)
    · by_cases h2 : (k : Int) < 100
      · obtain rfl := hr.head (by omega)
        have c1 := (oa.old.cell (p := ⟨b, o + k, none⟩) (hr.lt (by omega))).trans (hr.cell k (by omega))
        obtain ⟨n, hn⟩ : ∃ n : Nat, (n : Int) = zs k % 1000 := ⟨(zs k % 1000).toNat, by omega⟩
        have hn2 : n < 1000 := by omega
        have CN := hide (fun w => within_any (zs k) 1000 w (hr.low k (by omega)) (hr.high k (by omega)) (by omega) (by omega))
        rw [← hn] at CN
        clear hn
        go_wp2_with fail
        refine (unhide CN _).mono ?_
        rintro e w1 ⟨rfl, rfl⟩
        clear CN c1
        go_wp2_with fail
        refine (spend_any (n : Int) ((s + n : Nat) : Int) oa.met (by omega) (by omega) (by omega)).mono ?_
        rintro e w2 ⟨rfl, m, t⟩
        have ob := ob.other t hgo (by omega)
        have oa := oa.step m t
        clear m t
        go_wp2_with fail
        refine (enter_any ((k + 1 : Nat) : Int) ((k + 1 : Nat) : Int) oa.met (by omega) (by omega) (by omega) (by omega)).mono ?_
        rintro e w3 ⟨rfl, m, t⟩
        have ob := ob.other t hgo (by omega)
        have oa := oa.step m t
        clear m t
        go_wp2_with fail
        refine (leave_any 0 ob.met rfl (by omega) (by omega)).mono ?_
        rintro e w4 ⟨rfl, m, t⟩
        have oa := oa.other t (by omega) (by omega)
        have ob := ob.step m t
        clear m t
        go_wp2
        go_roundw
        case rel => exact ⟨k + 1, s + n, by omega, by omega, by omega, by go_num, by go_num, oa, ob⟩
        case measure => simp [intOf]; omega
      · obtain rfl : k = 100 := by omega
        go_wp2_with fail
        refine (muls_any oa.met).mono ?_
        rintro e w3 ⟨rfl, rfl⟩
        go_wp2_with fail
        refine (muls_any ob.met).mono ?_
        rintro e w4 ⟨rfl, rfl⟩
        go_wp2_with fail
        refine (muls_any oa.met).mono ?_
        rintro e w5 ⟨rfl, rfl⟩
        go_wp2_with fail
        refine (deep_any oa.met).mono ?_
        rintro e w6 ⟨rfl, rfl⟩
        go_wp2_with fail
        refine (deep_any ob.met).mono ?_
        rintro e w7 ⟨rfl, rfl⟩
        go_wp2_with fail
        refine (meterWakes_any _).mono ?_
        rintro e w8 ⟨rfl, b⟩
        have oa := oa.next b
        go_wp2
        go_ret
        exact ⟨rfl, oa.old⟩
    · obtain rfl : k = len := by omega
      go_wp2_with fail
      refine (muls_any oa.met).mono ?_
      rintro e w3 ⟨rfl, rfl⟩
      go_wp2_with fail
      refine (muls_any ob.met).mono ?_
      rintro e w4 ⟨rfl, rfl⟩
      go_wp2_with fail
      refine (muls_any oa.met).mono ?_
      rintro e w5 ⟨rfl, rfl⟩
      go_wp2_with fail
      refine (deep_any oa.met).mono ?_
      rintro e w6 ⟨rfl, rfl⟩
      go_wp2_with fail
      refine (deep_any ob.met).mono ?_
      rintro e w7 ⟨rfl, rfl⟩
      go_wp2_with fail
      refine (meterWakes_any _).mono ?_
      rintro e w8 ⟨rfl, b⟩
      have oa := oa.next b
      go_wp2
      go_ret
      exact ⟨rfl, oa.old⟩

end Go.Proofs.Ytpamgdngfoocnaa
