/- addTo and takeFrom of limb: a row is added to a piece of another, or taken from it. -/
import Derived.Test.YtpifgkhgnilpdaaTrim
import Derived.Test.YtpifgkhgnilpdaaWord
namespace Go.Proofs.Ytpifgkhgnilpdaa
open Go.RowKit

/-- k words of bs are added at o; c is carried. -/
def WAddAt (z0 zs bs : List Nat) (o k c : Nat) : Prop := zs.length = z0.length ∧ WDig zs ∧ c ≤ 1 ∧ wval zs + 18446744073709551616 ^ (o + k) * c = wval z0 + 18446744073709551616 ^ o * wval (bs.take k)
theorem wadd_start {z0 : List Nat} (h : WDig z0) (bs : List Nat) (o : Nat) : WAddAt z0 z0 bs o 0 0 := ⟨rfl, h, by omega, by simp [wval]⟩
theorem wadd_step {z0 zs bs : List Nat} {o k c r b : Nat} (h : WAddAt z0 zs bs o k c) (hk : o + k < zs.length) (hr : r = zs.getD (o + k) 0) (hb : b = bs.getD k 0) (hb64 : b < 18446744073709551616) :
    WAddAt z0 (zs.set (o + k) ((r + b + c) % 18446744073709551616)) bs o (k + 1) ((r + b + c) / 18446744073709551616) := by
  obtain ⟨h1, h2, h3, h4⟩ := h
  have hr64 : r < 18446744073709551616 := by rw [hr]; exact h2 _
  refine ⟨by simpa using h1, wDig_set h2 hk (Nat.mod_lt _ (by omega)), by omega, ?_⟩
  have hs := wval_set zs (o + k) ((r + b + c) % 18446744073709551616) hk
  rw [← hr] at hs
  rw [wval_take_succ, ← hb, Nat.mul_add, ← Nat.mul_assoc, ← Nat.pow_add, ← Nat.add_assoc o k 1, Nat.pow_succ, Nat.mul_assoc]
  have e : 18446744073709551616 ^ (o + k) * ((r + b + c) % 18446744073709551616) + 18446744073709551616 ^ (o + k) * (18446744073709551616 * ((r + b + c) / 18446744073709551616)) = 18446744073709551616 ^ (o + k) * r + 18446744073709551616 ^ (o + k) * b + 18446744073709551616 ^ (o + k) * c := by
    rw [← Nat.mul_add, Nat.mod_add_div, Nat.mul_add, Nat.mul_add]
  omega
theorem wadd_room {z0 zs bs : List Nat} {o k c N : Nat} (h : WAddAt z0 zs bs o k c) (hk : bs.length ≤ k) (hc : 0 < c) (hr : wval z0 + 18446744073709551616 ^ o * wval bs < 18446744073709551616 ^ N) : o + k < N := by
  obtain ⟨_, _, h3, h4⟩ := h
  rw [wval_take_ge _ _ hk, show c = 1 from by omega, Nat.mul_one] at h4
  refine Nat.lt_of_not_le fun hle => ?_
  have := Nat.pow_le_pow_right (n := 18446744073709551616) (by omega) hle
  omega
theorem wadd_end {z0 zs bs : List Nat} {o k c : Nat} (h : WAddAt z0 zs bs o k c) (hk : bs.length ≤ k) (hc : c = 0) : wval zs = wval z0 + 18446744073709551616 ^ o * wval bs := by
  obtain ⟨_, _, _, h4⟩ := h
  rw [wval_take_ge _ _ hk, hc, Nat.mul_zero] at h4
  exact h4

/-- k words of bs are taken at o; c is borrowed. -/
def WSubAt (z0 zs bs : List Nat) (o k c : Nat) : Prop := zs.length = z0.length ∧ WDig zs ∧ c ≤ 1 ∧ wval zs + 18446744073709551616 ^ o * wval (bs.take k) = wval z0 + 18446744073709551616 ^ (o + k) * c
theorem wsub_start {z0 : List Nat} (h : WDig z0) (bs : List Nat) (o : Nat) : WSubAt z0 z0 bs o 0 0 := ⟨rfl, h, by omega, by simp [wval]⟩
theorem wsub_step {z0 zs bs : List Nat} {o k c r b : Nat} (h : WSubAt z0 zs bs o k c) (hk : o + k < zs.length) (hr : r = zs.getD (o + k) 0) (hb : b = bs.getD k 0) (hb64 : b < 18446744073709551616) :
    WSubAt z0 (zs.set (o + k) ((r + 18446744073709551616 - b - c) % 18446744073709551616)) bs o (k + 1) (if r < b + c then 1 else 0) := by
  obtain ⟨h1, h2, h3, h4⟩ := h
  have hr64 : r < 18446744073709551616 := by rw [hr]; exact h2 _
  refine ⟨by simpa using h1, wDig_set h2 hk (Nat.mod_lt _ (by omega)), by split <;> omega, ?_⟩
  have hs := wval_set zs (o + k) ((r + 18446744073709551616 - b - c) % 18446744073709551616) hk
  rw [← hr] at hs
  rw [wval_take_succ, ← hb, Nat.mul_add, ← Nat.mul_assoc, ← Nat.pow_add, ← Nat.add_assoc o k 1, Nat.pow_succ, Nat.mul_assoc]
  have hd : (r + 18446744073709551616 - b - c) % 18446744073709551616 + b + c = r + 18446744073709551616 * (if r < b + c then 1 else 0) := by split <;> omega
  have e : 18446744073709551616 ^ (o + k) * ((r + 18446744073709551616 - b - c) % 18446744073709551616) + 18446744073709551616 ^ (o + k) * b + 18446744073709551616 ^ (o + k) * c = 18446744073709551616 ^ (o + k) * r + 18446744073709551616 ^ (o + k) * (18446744073709551616 * (if r < b + c then 1 else 0)) := by
    rw [← Nat.mul_add, ← Nat.mul_add, hd, Nat.mul_add]
  omega
theorem wsub_end {z0 zs bs : List Nat} {o k : Nat} (h : WSubAt z0 zs bs o k 0) (hk : bs.length ≤ k) : wval zs + 18446744073709551616 ^ o * wval bs = wval z0 := by
  obtain ⟨_, _, _, h4⟩ := h
  rw [wval_take_ge _ _ hk, Nat.mul_zero] at h4
  exact h4
theorem wsub_less {z0 zs bs : List Nat} {o k : Nat} (h : WSubAt z0 zs bs o k 1) (hk : bs.length ≤ k) (hN : z0.length ≤ o + k) : wval z0 < 18446744073709551616 ^ o * wval bs := by
  obtain ⟨h1, h2, _, h4⟩ := h
  rw [wval_take_ge _ _ hk, Nat.mul_one] at h4
  have := wval_lt_pow h2
  have := Nat.pow_le_pow_right (n := 18446744073709551616) (by omega) hN
  rw [h1] at *
  omega

theorem word_carry (c : Nat) (h : c ≤ 1) : (c = 0 ∧ c = 0) ∨ (c ≠ 0 ∧ c = 1) := by omega

set_option maxRecDepth 100000 in
set_option maxHeartbeats 3200000 in
theorem addTo_any (w : World) (g o n cap bb ob cb lb : Nat) (gb : Option Addr) (z0 bs : List Nat) (hz : z0.length = o + n) (hbl : bs.length = lb) (hlb : lb ≤ n) (hn : o + n ≤ 1099511627776)
    (hZ : Blk w g z0) (dz : WDig z0) (hB : Rep w gb bb ob cb bs) (db : WDig bs) (hne : 0 < bs.length → bb ≠ g) (hroom : wval z0 + 18446744073709551616 ^ o * wval bs < 18446744073709551616 ^ (o + n)) :
    Calls Try.prog 40 #[.slice (some ⟨g, o, none⟩) n cap, .slice gb lb cb] w fun e w' => e = .returned (.tuple #[]) ∧ ∃ zs, zs.length = o + n ∧ WDig zs ∧ Blk w' g zs ∧ wval zs = wval z0 + 18446744073709551616 ^ o * wval bs ∧ w.grownBy w' (some g) := by
  have HROOM := hide hroom
  have HNE := hide hne
  clear hroom hne
  go_enter Try.func40, Try.ntmps40
  go_wp2
  go_loopw [4, 10] (fun c i wr => ∃ (k cy : Nat) (zs : List Nat), k ≤ lb ∧ c = .int .u64 (cy : Int) ∧ i = .int .i64 (k : Int) ∧ cy ≤ 1 ∧ Blk wr g zs ∧ Hid (WAddAt z0 zs bs o k cy) ∧ Rep wr gb bb ob cb bs ∧ w.grownBy wr (some g))
    (fun _ i _ => lb - (intOf i).toNat)
  case atStart => exact ⟨0, 0, z0, Nat.zero_le _, rfl, rfl, by omega, hZ, wadd_start dz bs o, hB, grown_refl _ _⟩
  case round =>
    obtain ⟨k, cy, zs, hk, rfl, rfl, hcy, hBlk, hAt, hRb, hG⟩ := hrel
    have hzl : zs.length = o + n := by rw [hAt.out.1]; exact hz
    by_cases h1 : k < lb
    · obtain rfl := hRb.head (by omega)
      obtain ⟨b, hb⟩ : ∃ b : Nat, b = bs.getD k 0 := ⟨_, rfl⟩
      have hb64 : b < 18446744073709551616 := by rw [hb]; exact db k
      have cb : wr.cell? ⟨bb, ob + k, none⟩ = some (.int .u64 (b : Int)) := by rw [hb]; exact hRb.cell k (by omega)
      obtain ⟨r, hr⟩ : ∃ r : Nat, r = zs.getD (o + k) 0 := ⟨_, rfl⟩
      have cr : wr.cell? ⟨g, o + k, none⟩ = some (.int .u64 (r : Int)) := by rw [hr]; exact hBlk.cell (o + k) (by omega)
      have fr := hBlk.frozen (o + k)
      have H2 := hide (wadd_step hAt.out (by omega) hr hb hb64)
      have CA := hide (fun w => word_add r b cy cy w (word_carry cy hcy))
      have hc2 := (unhide H2).2.2.1
      generalize (r + b + cy) % 18446744073709551616 = d at *
      generalize (r + b + cy) / 18446744073709551616 = c2 at *
      clear hr hb
      go_wp2_with fail
      refine (unhide CA _).mono ?_
      rintro e w1 ⟨rfl, rfl⟩
      go_wp2
      exact ⟨⟨k + 1, c2, _, by omega, rfl, by go_num, hc2, hBlk.set (o + k) d, H2, hRb.but (grown_set _ _ _ _) (unhide HNE), grown_trans hG (grown_set _ _ _ _)⟩, by simp [intOf]; omega⟩
    · obtain rfl : k = lb := by omega
      go_wp2
      go_loopw [4, 7] (fun c i wi => ∃ (q cy : Nat) (zs : List Nat), k ≤ q ∧ q ≤ n ∧ c = .int .u64 (cy : Int) ∧ i = .int .i64 (q : Int) ∧ cy ≤ 1 ∧ Blk wi g zs ∧ Hid (WAddAt z0 zs bs o q cy) ∧ w.grownBy wi (some g))
        (fun _ i _ => n - (intOf i).toNat)
      case atStart => exact ⟨k, cy, zs, Nat.le_refl _, hlb, rfl, rfl, hcy, hBlk, hAt, hG⟩
      case round =>
        obtain ⟨q, cy, zs, hq1, hq2, rfl, rfl, hcy, hBlk, hAt, hG⟩ := hrel
        have hzl : zs.length = o + n := by rw [hAt.out.1]; exact hz
        by_cases h2 : cy = 0
        · subst h2
          have hv := wadd_end hAt.out (by omega) rfl
          have HV := hide hv
          have HD := hide hAt.out.2.1
          clear hv hAt
          go_wp2
          go_end0
          exact ⟨rfl, zs, hzl, unhide HD, hBlk, unhide HV, hG⟩
        · obtain rfl : cy = 1 := by omega
          have hqn := wadd_room hAt.out (by omega) (by omega) (unhide HROOM)
          obtain ⟨r, hr⟩ : ∃ r : Nat, r = zs.getD (o + q) 0 := ⟨_, rfl⟩
          have cr : wr.cell? ⟨g, o + q, none⟩ = some (.int .u64 (r : Int)) := by rw [hr]; exact hBlk.cell (o + q) (by omega)
          have fr := hBlk.frozen (o + q)
          have H2 := hide (wadd_step (b := 0) hAt.out (by omega) hr (by rw [getD_ge (by omega)]) (by omega))
          have CA := hide (fun w => word_add r 0 1 1 w (Or.inr ⟨by omega, rfl⟩))
          have hc2 := (unhide H2).2.2.1
          generalize (r + 0 + 1) % 18446744073709551616 = d at *
          generalize (r + 0 + 1) / 18446744073709551616 = c2 at *
          have hqn2 : q < n := by omega
          clear hr hqn
          go_wp2_with fail
          refine (unhide CA _).mono ?_
          rintro e w1 ⟨rfl, rfl⟩
          go_wp2
          exact ⟨⟨q + 1, c2, _, by omega, by omega, rfl, by go_num, hc2, hBlk.set (o + q) d, H2, grown_trans hG (grown_set _ _ _ _)⟩, by simp [intOf]; omega⟩

/-- What takeFrom leaves: the row, and whether there was too little. -/
def TakeDone (w : World) (g o n : Nat) (z0 bs : List Nat) (e : Ending) (w' : World) : Prop := ∃ (c : Nat) (zs : List Nat), e = .returned (.int .u64 (c : Int)) ∧ c ≤ 1 ∧ zs.length = o + n ∧ WDig zs ∧ Blk w' g zs ∧ w.grownBy w' (some g) ∧
  ((c = 0 ∧ wval zs + 18446744073709551616 ^ o * wval bs = wval z0) ∨ (c = 1 ∧ wval z0 < 18446744073709551616 ^ o * wval bs))
theorem take_mk {w w' : World} {g o n : Nat} {z0 bs : List Nat} (c : Nat) (zs : List Nat) (h1 : c ≤ 1) (h2 : zs.length = o + n) (h3 : WDig zs) (h4 : Blk w' g zs) (h5 : w.grownBy w' (some g)) (h6 : (c = 0 ∧ wval zs + 18446744073709551616 ^ o * wval bs = wval z0) ∨ (c = 1 ∧ wval z0 < 18446744073709551616 ^ o * wval bs)) :
    TakeDone w g o n z0 bs (.returned (.int .u64 (c : Int))) w' := ⟨c, zs, rfl, h1, h2, h3, h4, h5, h6⟩

end Go.Proofs.Ytpifgkhgnilpdaa
