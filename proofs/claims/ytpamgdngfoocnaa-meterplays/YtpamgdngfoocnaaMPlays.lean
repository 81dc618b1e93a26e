/- MeterPlays: what the law's walk comes to. -/
import Derived.Test.YtpamgdngfoocnaaMWakes
import Derived.Test.YtpamgdngfoocnaaWithinK
import Derived.Test.YtpamgdngfoocnaaPRow
namespace Go.Proofs.Ytpamgdngfoocnaa
open Go.RowKit

set_option maxRecDepth 100000 in
set_option maxHeartbeats 25600000 in
theorem meterPlays_any (w : World) (ga : Option Addr) (b o len cap : Nat) (xs zs : Nat → Int) (hl : len ≤ 9223372036854775807) (hr : PRow w ga b o len xs zs) :
    Calls Try.prog 3 #[.slice ga len cap] w fun e w' => e = .returned (.bool true) ∧ Below w.heap.size w w' := by
  have ow := own_new w 24
  obtain ⟨g, hg⟩ : ∃ g, g = w.heap.size := ⟨_, rfl⟩
  go_enter Try.func3, Try.ntmps3
  go_wp2
  rw [← hg] at ow ⊢
  clear hg
  go_loopw [4, 5, 6, 7] (fun v4 v5 v6 v7 wr => ∃ (k s l d : Nat), k ≤ len ∧ k ≤ 300 ∧ s ≤ 1073741824 * k ∧ l ≤ k ∧ d ≤ k ∧ v4 = .int .i64 (s : Int) ∧ v5 = .int .i64 (l : Int) ∧ v6 = .int .i64 (d : Int) ∧ v7 = .int .i64 (k : Int) ∧ Own w wr g 0 (s : Int) (l : Int) (d : Int)) (fun _ _ _ v _ => 300 - (intOf v).toNat)
  case atStart => exact ⟨0, 0, 0, 0, Nat.zero_le _, by omega, by omega, by omega, by omega, rfl, rfl, rfl, rfl, ow⟩
  case round =>
    clear ow
    obtain ⟨k, s, l, d, hk, hk1, hs, hl1, hd1, rfl, rfl, rfl, rfl, ow⟩ := hrel
    by_cases h1 : (k : Int) < (len : Int)
    · by_cases h2 : (k : Int) < 300
      · obtain rfl := hr.head (by omega)
        have c1 := (ow.old.cell (p := ⟨b, o + k * 2, none⟩) (hr.lt (by omega))).trans (hr.fst k (by omega))
        have c2 := (ow.old.cell (p := ⟨b, o + k * 2 + 1, none⟩) (hr.lt (by omega))).trans (hr.snd k (by omega))
        obtain ⟨r, hn⟩ : ∃ r : Int, r = xs k % 6 := ⟨_, rfl⟩
        have hr6 : r = 0 ∨ r = 1 ∨ r = 2 ∨ r = 3 ∨ r = 4 ∨ r = 5 := by omega
        have CN := hide (fun w => within_any (xs k) 6 w (hr.xlow k (by omega)) (hr.xhigh k (by omega)) (by omega) (by omega))
        rw [← hn] at CN
        have hz1 := hr.zlow k (by omega)
        have hz2 := hr.zhigh k (by omega)
        clear hn
        generalize zs k = z at c2 hz1 hz2
        rcases hr6 with rfl | rfl | rfl | rfl | rfl | rfl
        · skip
          by_cases z1 : 1073741824 < z
          · skip
            go_wp2_with fail
            refine (unhide CN _).mono ?_
            rintro e w1 ⟨rfl, rfl⟩
            clear CN
            go_wp2_with fail
            refine (spend_any 1073741824 ((s + 1073741824 : Nat) : Int) ow.met (by omega) (by omega) (by omega)).mono ?_
            rintro e w2 ⟨rfl, m, t⟩
            have ow := ow.step m t
            clear m t
            go_wp2_with fail
            refine (muls_any ow.met).mono ?_
            rintro e w3 ⟨rfl, rfl⟩
            go_wp2_with fail
            refine (now_any ow.met).mono ?_
            rintro e w4 ⟨rfl, rfl⟩
            go_wp2_with fail
            refine (deep_any ow.met).mono ?_
            rintro e w5 ⟨rfl, rfl⟩
            go_wp2
            go_roundw
            case rel => exact ⟨k + 1, s + 1073741824, l, d, by omega, by omega, by omega, by omega, by omega, by go_num, by go_num, by go_num, by go_num, ow⟩
            case measure => simp [intOf]; omega
          · by_cases z2 : z < 0
            · skip
              go_wp2_with fail
              refine (unhide CN _).mono ?_
              rintro e w1 ⟨rfl, rfl⟩
              clear CN
              go_wp2_with fail
              refine (spend_any z (s : Int) ow.met (by omega) (by omega) (by omega)).mono ?_
              rintro e w2 ⟨rfl, m, t⟩
              have ow := ow.step m t
              clear m t
              go_wp2_with fail
              refine (muls_any ow.met).mono ?_
              rintro e w3 ⟨rfl, rfl⟩
              go_wp2_with fail
              refine (now_any ow.met).mono ?_
              rintro e w4 ⟨rfl, rfl⟩
              go_wp2_with fail
              refine (deep_any ow.met).mono ?_
              rintro e w5 ⟨rfl, rfl⟩
              go_wp2
              go_roundw
              case rel => exact ⟨k + 1, s, l, d, by omega, by omega, by omega, by omega, by omega, by go_num, by go_num, by go_num, by go_num, ow⟩
              case measure => simp [intOf]; omega
            · obtain ⟨y, rfl⟩ : ∃ y : Nat, z = (y : Int) := ⟨z.toNat, by omega⟩
              go_wp2_with fail
              refine (unhide CN _).mono ?_
              rintro e w1 ⟨rfl, rfl⟩
              clear CN
              go_wp2_with fail
              refine (spend_any (y : Int) ((s + y : Nat) : Int) ow.met (by omega) (by omega) (by omega)).mono ?_
              rintro e w2 ⟨rfl, m, t⟩
              have ow := ow.step m t
              clear m t
              go_wp2_with fail
              refine (muls_any ow.met).mono ?_
              rintro e w3 ⟨rfl, rfl⟩
              go_wp2_with fail
              refine (now_any ow.met).mono ?_
              rintro e w4 ⟨rfl, rfl⟩
              go_wp2_with fail
              refine (deep_any ow.met).mono ?_
              rintro e w5 ⟨rfl, rfl⟩
              go_wp2
              go_roundw
              case rel => exact ⟨k + 1, s + y, l, d, by omega, by omega, by omega, by omega, by omega, by go_num, by go_num, by go_num, by go_num, ow⟩
              case measure => simp [intOf]; omega
        · skip
          by_cases z1 : 1073741824 < z
          · skip
            go_wp2_with fail
            refine (unhide CN _).mono ?_
            rintro e w1 ⟨rfl, rfl⟩
            clear CN
            go_wp2_with fail
            refine (spend_any 1073741824 ((s + 1073741824 : Nat) : Int) ow.met (by omega) (by omega) (by omega)).mono ?_
            rintro e w2 ⟨rfl, m, t⟩
            have ow := ow.step m t
            clear m t
            go_wp2_with fail
            refine (muls_any ow.met).mono ?_
            rintro e w3 ⟨rfl, rfl⟩
            go_wp2_with fail
            refine (now_any ow.met).mono ?_
            rintro e w4 ⟨rfl, rfl⟩
            go_wp2_with fail
            refine (deep_any ow.met).mono ?_
            rintro e w5 ⟨rfl, rfl⟩
            go_wp2
            go_roundw
            case rel => exact ⟨k + 1, s + 1073741824, l, d, by omega, by omega, by omega, by omega, by omega, by go_num, by go_num, by go_num, by go_num, ow⟩
            case measure => simp [intOf]; omega
          · by_cases z2 : z < 0
            · skip
              go_wp2_with fail
              refine (unhide CN _).mono ?_
              rintro e w1 ⟨rfl, rfl⟩
              clear CN
              go_wp2_with fail
              refine (spend_any z (s : Int) ow.met (by omega) (by omega) (by omega)).mono ?_
              rintro e w2 ⟨rfl, m, t⟩
              have ow := ow.step m t
              clear m t
              go_wp2_with fail
              refine (muls_any ow.met).mono ?_
              rintro e w3 ⟨rfl, rfl⟩
              go_wp2_with fail
              refine (now_any ow.met).mono ?_
              rintro e w4 ⟨rfl, rfl⟩
              go_wp2_with fail
              refine (deep_any ow.met).mono ?_
              rintro e w5 ⟨rfl, rfl⟩
              go_wp2
              go_roundw
              case rel => exact ⟨k + 1, s, l, d, by omega, by omega, by omega, by omega, by omega, by go_num, by go_num, by go_num, by go_num, ow⟩
              case measure => simp [intOf]; omega
            · obtain ⟨y, rfl⟩ : ∃ y : Nat, z = (y : Int) := ⟨z.toNat, by omega⟩
              go_wp2_with fail
              refine (unhide CN _).mono ?_
              rintro e w1 ⟨rfl, rfl⟩
              clear CN
              go_wp2_with fail
              refine (spend_any (y : Int) ((s + y : Nat) : Int) ow.met (by omega) (by omega) (by omega)).mono ?_
              rintro e w2 ⟨rfl, m, t⟩
              have ow := ow.step m t
              clear m t
              go_wp2_with fail
              refine (muls_any ow.met).mono ?_
              rintro e w3 ⟨rfl, rfl⟩
              go_wp2_with fail
              refine (now_any ow.met).mono ?_
              rintro e w4 ⟨rfl, rfl⟩
              go_wp2_with fail
              refine (deep_any ow.met).mono ?_
              rintro e w5 ⟨rfl, rfl⟩
              go_wp2
              go_roundw
              case rel => exact ⟨k + 1, s + y, l, d, by omega, by omega, by omega, by omega, by omega, by go_num, by go_num, by go_num, by go_num, ow⟩
              case measure => simp [intOf]; omega
        · skip
          by_cases z1 : (d : Int) < (l : Int) + 1
          · skip
            go_wp2_with fail
            refine (unhide CN _).mono ?_
            rintro e w1 ⟨rfl, rfl⟩
            clear CN
            go_wp2_with fail
            refine (enter_any ((l + 1 : Nat) : Int) ((l + 1 : Nat) : Int) ow.met (by omega) (by omega) (by omega) (by omega)).mono ?_
            rintro e w2 ⟨rfl, m, t⟩
            have ow := ow.step m t
            clear m t
            go_wp2_with fail
            refine (muls_any ow.met).mono ?_
            rintro e w3 ⟨rfl, rfl⟩
            go_wp2_with fail
            refine (now_any ow.met).mono ?_
            rintro e w4 ⟨rfl, rfl⟩
            go_wp2_with fail
            refine (deep_any ow.met).mono ?_
            rintro e w5 ⟨rfl, rfl⟩
            go_wp2
            go_roundw
            case rel => exact ⟨k + 1, s, l + 1, l + 1, by omega, by omega, by omega, by omega, by omega, by go_num, by go_num, by go_num, by go_num, ow⟩
            case measure => simp [intOf]; omega
          · skip
            go_wp2_with fail
            refine (unhide CN _).mono ?_
            rintro e w1 ⟨rfl, rfl⟩
            clear CN
            go_wp2_with fail
            refine (enter_any ((l + 1 : Nat) : Int) (d : Int) ow.met (by omega) (by omega) (by omega) (by omega)).mono ?_
            rintro e w2 ⟨rfl, m, t⟩
            have ow := ow.step m t
            clear m t
            go_wp2_with fail
            refine (muls_any ow.met).mono ?_
            rintro e w3 ⟨rfl, rfl⟩
            go_wp2_with fail
            refine (now_any ow.met).mono ?_
            rintro e w4 ⟨rfl, rfl⟩
            go_wp2_with fail
            refine (deep_any ow.met).mono ?_
            rintro e w5 ⟨rfl, rfl⟩
            go_wp2
            go_roundw
            case rel => exact ⟨k + 1, s, l + 1, d, by omega, by omega, by omega, by omega, by omega, by go_num, by go_num, by go_num, by go_num, ow⟩
            case measure => simp [intOf]; omega
        · skip
          by_cases z1 : (d : Int) < (l : Int) + 1
          · skip
            go_wp2_with fail
            refine (unhide CN _).mono ?_
            rintro e w1 ⟨rfl, rfl⟩
            clear CN
            go_wp2_with fail
            refine (enter_any ((l + 1 : Nat) : Int) ((l + 1 : Nat) : Int) ow.met (by omega) (by omega) (by omega) (by omega)).mono ?_
            rintro e w2 ⟨rfl, m, t⟩
            have ow := ow.step m t
            clear m t
            go_wp2_with fail
            refine (muls_any ow.met).mono ?_
            rintro e w3 ⟨rfl, rfl⟩
            go_wp2_with fail
            refine (now_any ow.met).mono ?_
            rintro e w4 ⟨rfl, rfl⟩
            go_wp2_with fail
            refine (deep_any ow.met).mono ?_
            rintro e w5 ⟨rfl, rfl⟩
            go_wp2
            go_roundw
            case rel => exact ⟨k + 1, s, l + 1, l + 1, by omega, by omega, by omega, by omega, by omega, by go_num, by go_num, by go_num, by go_num, ow⟩
            case measure => simp [intOf]; omega
          · skip
            go_wp2_with fail
            refine (unhide CN _).mono ?_
            rintro e w1 ⟨rfl, rfl⟩
            clear CN
            go_wp2_with fail
            refine (enter_any ((l + 1 : Nat) : Int) (d : Int) ow.met (by omega) (by omega) (by omega) (by omega)).mono ?_
            rintro e w2 ⟨rfl, m, t⟩
            have ow := ow.step m t
            clear m t
            go_wp2_with fail
            refine (muls_any ow.met).mono ?_
            rintro e w3 ⟨rfl, rfl⟩
            go_wp2_with fail
            refine (now_any ow.met).mono ?_
            rintro e w4 ⟨rfl, rfl⟩
            go_wp2_with fail
            refine (deep_any ow.met).mono ?_
            rintro e w5 ⟨rfl, rfl⟩
            go_wp2
            go_roundw
            case rel => exact ⟨k + 1, s, l + 1, d, by omega, by omega, by omega, by omega, by omega, by go_num, by go_num, by go_num, by go_num, ow⟩
            case measure => simp [intOf]; omega
        · skip
          by_cases z1 : (l : Int) - 1 < 0
          · obtain rfl : l = 0 := by omega
            go_wp2_with fail
            refine (unhide CN _).mono ?_
            rintro e w1 ⟨rfl, rfl⟩
            clear CN
            go_wp2_with fail
            refine (leave_any 0 ow.met (by omega) (by omega) (by omega)).mono ?_
            rintro e w2 ⟨rfl, m, t⟩
            have ow := ow.step m t
            clear m t
            go_wp2_with fail
            refine (muls_any ow.met).mono ?_
            rintro e w3 ⟨rfl, rfl⟩
            go_wp2_with fail
            refine (now_any ow.met).mono ?_
            rintro e w4 ⟨rfl, rfl⟩
            go_wp2_with fail
            refine (deep_any ow.met).mono ?_
            rintro e w5 ⟨rfl, rfl⟩
            go_wp2
            go_roundw
            case rel => exact ⟨k + 1, s, 0, d, by omega, by omega, by omega, by omega, by omega, by go_num, by go_num, by go_num, by go_num, ow⟩
            case measure => simp [intOf]; omega
          · obtain ⟨q, rfl⟩ : ∃ q : Nat, l = q + 1 := ⟨l - 1, by omega⟩
            have e1 : ((q + 1 : Nat) : Int) - 1 = (q : Int) := by omega
            go_wp2_with fail
            refine (unhide CN _).mono ?_
            rintro e w1 ⟨rfl, rfl⟩
            clear CN
            go_wp2_with fail
            refine (leave_any (q : Int) ow.met (by omega) (by omega) (by omega)).mono ?_
            rintro e w2 ⟨rfl, m, t⟩
            have ow := ow.step m t
            clear m t
            go_wp2_with fail
            refine (muls_any ow.met).mono ?_
            rintro e w3 ⟨rfl, rfl⟩
            go_wp2_with fail
            refine (now_any ow.met).mono ?_
            rintro e w4 ⟨rfl, rfl⟩
            go_wp2_with fail
            refine (deep_any ow.met).mono ?_
            rintro e w5 ⟨rfl, rfl⟩
            go_wp2
            go_roundw
            case rel => exact ⟨k + 1, s, q, d, by omega, by omega, by omega, by omega, by omega, by go_num, by go_num, by go_num, by go_num, ow⟩
            case measure => simp [intOf]; omega
        · skip
          skip
          go_wp2_with fail
          refine (unhide CN _).mono ?_
          rintro e w1 ⟨rfl, rfl⟩
          clear CN
          go_wp2_with fail
          refine (reset_any ow.met).mono ?_
          rintro e w2 ⟨rfl, m, t⟩
          have ow := ow.step m t
          clear m t
          go_wp2_with fail
          refine (muls_any ow.met).mono ?_
          rintro e w3 ⟨rfl, rfl⟩
          go_wp2_with fail
          refine (now_any ow.met).mono ?_
          rintro e w4 ⟨rfl, rfl⟩
          go_wp2_with fail
          refine (deep_any ow.met).mono ?_
          rintro e w5 ⟨rfl, rfl⟩
          go_wp2
          go_roundw
          case rel => exact ⟨k + 1, 0, 0, 0, by omega, by omega, by omega, by omega, by omega, by go_num, by go_num, by go_num, by go_num, ow⟩
          case measure => simp [intOf]; omega
      · obtain rfl : k = 300 := by omega
        go_wp2_with fail
        refine (meterWakes_any _).mono ?_
        rintro e w8 ⟨rfl, b⟩
        have ow := ow.next b
        go_wp2
        go_ret
        exact ⟨rfl, ow.old⟩
    · obtain rfl : k = len := by omega
      go_wp2_with fail
      refine (meterWakes_any _).mono ?_
      rintro e w8 ⟨rfl, b⟩
      have ow := ow.next b
      go_wp2
      go_ret
      exact ⟨rfl, ow.old⟩

end Go.Proofs.Ytpamgdngfoocnaa
