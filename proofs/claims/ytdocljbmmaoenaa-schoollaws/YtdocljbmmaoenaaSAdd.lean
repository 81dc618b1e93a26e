/- addTimes of school: a row times a word is added to a piece of another. -/
import Derived.Test.YtdocljbmmaoenaaSPlain
namespace Go.Proofs.Ytdocljbmmaoenaa
open Go.RowKit

set_option maxRecDepth 100000 in
set_option maxHeartbeats 3200000 in
theorem addTimes_any (w : World) (g o n cap bb ob cb lb y : Nat) (gb : Option Addr) (z0 bs : List Nat) (hz : z0.length = o + n) (hbl : bs.length = lb) (hlb : lb ≤ n) (hn : o + n ≤ 1099511627776) (hy : y < 18446744073709551616)
    (hZ : Blk w g z0) (dz : WDig z0) (hB : Rep w gb bb ob cb bs) (db : WDig bs) (hne : 0 < bs.length → bb ≠ g) :
    Calls Try.prog 25 #[.slice (some ⟨g, o, none⟩) n cap, .slice gb lb cb, .int .u64 (y : Int)] w fun e w' => ∃ (c : Nat) (zs : List Nat), e = .returned (.int .u64 (c : Int)) ∧ SAt z0 zs bs y o lb c ∧ Blk w' g zs ∧ w.grownBy w' (some g) := by
  have HNE := hide hne
  clear hne
  go_enter Try.func25, Try.ntmps25
  go_wp2
  go_loopw [6, 14] (fun c i wr => ∃ (k cy : Nat) (zs : List Nat), k ≤ lb ∧ c = .int .u64 (cy : Int) ∧ i = .int .i64 (k : Int) ∧ cy < 18446744073709551616 ∧ Blk wr g zs ∧ Hid (SAt z0 zs bs y o k cy) ∧ Rep wr gb bb ob cb bs ∧ w.grownBy wr (some g))
    (fun _ i _ => lb - (intOf i).toNat)
  case atStart => exact ⟨0, 0, z0, Nat.zero_le _, rfl, rfl, by omega, hZ, s_start dz bs y o, hB, grown_refl _ _⟩
  case round =>
    obtain ⟨k, cy, zs, hk, rfl, rfl, hcy, hBlk, hAt, hRb, hG⟩ := hrel
    have hzl : zs.length = o + n := by rw [hAt.out.1]; exact hz
    by_cases h1 : k < lb
    · obtain rfl := hRb.head (by omega)
      obtain ⟨b, hb⟩ : ∃ b : Nat, b = bs.getD k 0 := ⟨_, rfl⟩
      have hb64 : b < 18446744073709551616 := by rw [hb]; exact db k
      have cb : wr.cell? ⟨bb, ob + k, none⟩ = some (.int .u64 (b : Int)) := by rw [hb]; exact hRb.cell k (by omega)
      obtain ⟨r, hr⟩ : ∃ r : Nat, r = zs.getD (o + k) 0 := ⟨_, rfl⟩
      have hr64 : r < 18446744073709551616 := by rw [hr]; exact hAt.out.2.1 _
      have cr : wr.cell? ⟨g, o + k, none⟩ = some (.int .u64 (r : Int)) := by rw [hr]; exact hBlk.cell (o + k) (by omega)
      have fr := hBlk.frozen (o + k)
      obtain ⟨h0, e0⟩ : ∃ h0, h0 = b * y / 18446744073709551616 := ⟨_, rfl⟩
      obtain ⟨l0, e1⟩ : ∃ l0, l0 = b * y % 18446744073709551616 := ⟨_, rfl⟩
      obtain ⟨l1, e2⟩ : ∃ l1, l1 = (l0 + cy + 0) % 18446744073709551616 := ⟨_, rfl⟩
      obtain ⟨c1, e3⟩ : ∃ c1, c1 = (l0 + cy + 0) / 18446744073709551616 := ⟨_, rfl⟩
      obtain ⟨h1', e4⟩ : ∃ h1', h1' = h0 + c1 := ⟨_, rfl⟩
      obtain ⟨d, e5⟩ : ∃ d, d = (r + l1 + 0) % 18446744073709551616 := ⟨_, rfl⟩
      obtain ⟨c2, e6⟩ : ∃ c2, c2 = (r + l1 + 0) / 18446744073709551616 := ⟨_, rfl⟩
      obtain ⟨c3, e7⟩ : ∃ c3, c3 = h1' + c2 := ⟨_, rfl⟩
      obtain ⟨q1, q2, q3, q4⟩ := s_parts hb64 hy hcy hr64 e0 e1 e2 e3 e4 e5 e6 e7
      have H2 := hide (s_step hAt.out (by omega) hr hb q3 q2 q4)
      have CM := hide (fun w => word_mul b y w hb64 hy)
      have CA := hide (fun w => word_add l0 cy 0 0 w (Or.inl ⟨rfl, rfl⟩))
      have CB := hide (fun w => word_add r l1 0 0 w (Or.inl ⟨rfl, rfl⟩))
      rw [← e0, ← e1] at CM
      rw [← e2, ← e3] at CA
      rw [← e5, ← e6] at CB
      have E4 : (h0 : Int) + (c1 : Int) = (h1' : Int) := by omega
      have E7 : (h1' : Int) + (c2 : Int) = (c3 : Int) := by omega
      clear hr hb e0 e1 e2 e3 e4 e5 e6 e7 q4
      go_wp2_with fail
      refine (unhide CM _).mono ?_
      rintro e w1 ⟨rfl, rfl⟩
      go_wp2_with fail
      refine (unhide CA _).mono ?_
      rintro e w2 ⟨rfl, rfl⟩
      go_wp2_with fail
      refine (unhide CB _).mono ?_
      rintro e w3 ⟨rfl, rfl⟩
      go_wp2
      exact ⟨⟨k + 1, c3, _, by omega, by first | rfl | exact congrArg (Value.int .u64) E7, by go_num, q2, hBlk.set (o + k) d, H2, hRb.but (grown_set _ _ _ _) (unhide HNE), grown_trans hG (grown_set _ _ _ _)⟩, by simp [intOf]; omega⟩
    · obtain rfl : k = lb := by omega
      go_wp2
      go_ret
      exact ⟨cy, zs, rfl, hAt.out, hBlk, hG⟩

end Go.Proofs.Ytdocljbmmaoenaa
