/- MeterDeep: what the law's walk comes to. -/
import Derived.Test.YtpamgdngfoocnaaMWakes
import Derived.Test.YtpamgdngfoocnaaWithinK
namespace Go.Proofs.Ytpamgdngfoocnaa
open Go.RowKit

set_option maxRecDepth 100000 in
set_option maxHeartbeats 6400000 in
theorem meterDeep_any (w : World) (a b : Int) (ha1 : -9223372036854775808 ≤ a) (ha2 : a ≤ 9223372036854775807) (hb1 : -9223372036854775808 ≤ b) (hb2 : b ≤ 9223372036854775807) :
    Calls Try.prog 5 #[.int .i64 a, .int .i64 b] w fun e w' => e = .returned (.bool true) ∧ Below w.heap.size w w' := by
  obtain ⟨n, hn⟩ : ∃ n : Nat, (n : Int) = a % 40 := ⟨(a % 40).toNat, by omega⟩
  obtain ⟨k, hk⟩ : ∃ k : Nat, (k : Int) = b % 6 := ⟨(b % 6).toNat, by omega⟩
  have hn40 : n < 40 := by omega
  have hk6 : k < 6 := by omega
  have CN := hide (fun w => within_any a 40 w ha1 ha2 (by omega) (by omega))
  have CK := hide (fun w => within_any b 6 w hb1 hb2 (by omega) (by omega))
  rw [← hn] at CN
  rw [← hk] at CK
  clear hn hk ha1 ha2 hb1 hb2
  have ow := own_new w 24
  obtain ⟨g, hg⟩ : ∃ g, g = w.heap.size := ⟨_, rfl⟩
  go_enter Try.func5, Try.ntmps5
  go_wp2_with fail
  refine (unhide CN _).mono ?_
  rintro e w1 ⟨rfl, rfl⟩
  go_wp2_with fail
  refine (unhide CK _).mono ?_
  rintro e w2 ⟨rfl, rfl⟩
  clear CN CK
  rw [← hg] at ow ⊢
  clear hg
  go_wp2
  go_loopw [6] (fun j wr => ∃ (q d : Nat), q ≤ k + 1 ∧ j = .int .i64 (q : Int) ∧ (d = n ∨ q = 0 ∧ d = 0) ∧ Own w wr g 0 0 0 (d : Int)) (fun j _ => k + 1 - (intOf j).toNat)
  case atStart => exact ⟨0, 0, Nat.zero_le _, rfl, Or.inr ⟨rfl, rfl⟩, ow⟩
  case round =>
    clear ow
    obtain ⟨q, d, hq, rfl, hd, ow⟩ := hrel
    by_cases h1 : (q : Int) ≤ (k : Int)
    · go_wp2
      go_loopw [7] (fun i wi => ∃ (p c : Nat), p ≤ n ∧ i = .int .i64 (p : Int) ∧ c = max d p ∧ Own w wi g 0 0 (p : Int) (c : Int)) (fun i _ => n - (intOf i).toNat)
      case atStart => exact ⟨0, d, Nat.zero_le _, rfl, by omega, ow⟩
      case round =>
        clear ow
        obtain ⟨p, c, hp, rfl, hc, ow⟩ := hrel
        by_cases h2 : (p : Int) < (n : Int)
        · go_wp2_with fail
          refine (enter_any ((p + 1 : Nat) : Int) ((max c (p + 1) : Nat) : Int) ow.met (by omega) (by omega) (by omega) (by omega)).mono ?_
          rintro e w3 ⟨rfl, m, t⟩
          have ow := ow.step m t
          clear m t
          go_wp2
          go_roundw
          case rel => exact ⟨p + 1, max c (p + 1), by omega, by go_num, by omega, ow⟩
          case measure => simp [intOf]; omega
        · obtain rfl : p = n := by omega
          obtain rfl : c = p := by omega
          clear hd hc hp h2
          go_wp2
          go_loopw [8] (fun i wi => ∃ (p : Nat), p ≤ c ∧ i = .int .i64 (p : Int) ∧ Own w wi g 0 0 ((c - p : Nat) : Int) (c : Int)) (fun i _ => c - (intOf i).toNat)
          case atStart => exact ⟨0, Nat.zero_le _, rfl, ow⟩
          case round =>
            clear ow
            obtain ⟨p, hp, rfl, ow⟩ := hrel
            by_cases h2 : (p : Int) < (c : Int)
            · go_wp2_with fail
              refine (leave_any ((c - (p + 1) : Nat) : Int) ow.met (by omega) (by omega) (by omega)).mono ?_
              rintro e w3 ⟨rfl, m, t⟩
              have ow := ow.step m t
              clear m t
              go_wp2
              go_roundw
              case rel => exact ⟨p + 1, by omega, by go_num, ow⟩
              case measure => simp [intOf]; omega
            · obtain rfl : p = c := by omega
              rw [Nat.sub_self] at ow
              go_wp2
              go_roundw
              case rel => exact ⟨q + 1, p, by omega, by go_num, Or.inl rfl, ow⟩
              case measure => simp [intOf]; omega
    · obtain rfl : d = n := by omega
      clear hd
      go_wp2_with fail
      refine (deep_any ow.met).mono ?_
      rintro e w3 ⟨rfl, rfl⟩
      go_wp2_with fail
      refine (now_any ow.met).mono ?_
      rintro e w4 ⟨rfl, rfl⟩
      go_wp2_with fail
      refine (leave_any 0 ow.met rfl (by omega) (by omega)).mono ?_
      rintro e w5 ⟨rfl, m, t⟩
      have ow := ow.step m t
      clear m t
      go_wp2_with fail
      by_cases hd1 : (d : Int) < 1
      · refine (enter_any 1 1 ow.met rfl (by omega) (by omega) (by omega)).mono ?_
        rintro e w6 ⟨rfl, m, t⟩
        have ow := ow.step m t
        clear m t
        go_wp2_with fail
        refine (deep_any ow.met).mono ?_
        rintro e w7 ⟨rfl, rfl⟩
        go_wp2_with fail
        refine (meterWakes_any _).mono ?_
        rintro e w8 ⟨rfl, b⟩
        have ow := ow.next b
        clear b
        go_wp2
        go_ret
        exact ⟨rfl, ow.old⟩
      · refine (enter_any 1 (d : Int) ow.met rfl (by omega) (by omega) (by omega)).mono ?_
        rintro e w6 ⟨rfl, m, t⟩
        have ow := ow.step m t
        clear m t
        go_wp2_with fail
        refine (deep_any ow.met).mono ?_
        rintro e w7 ⟨rfl, rfl⟩
        go_wp2_with fail
        refine (meterWakes_any _).mono ?_
        rintro e w8 ⟨rfl, b⟩
        have ow := ow.next b
        clear b
        go_wp2
        go_ret
        exact ⟨rfl, ow.old⟩

end Go.Proofs.Ytpamgdngfoocnaa
