/- addTo and takeFrom of limb: a row is added to a piece of another, or taken from it. -/
import Derived.Test.YtpcfghnenhnlpaaGreatDoorB14
import Derived.Test.YtpcfghnenhnlpaaGreatDoorB28
import Derived.Deep.QuietTactic
import Derived.BigQuiet
import Derived.WalkSmall
import Derived.Deep.RegionWith
import Derived.Test.YtpcfghnenhnlpaaGreatDoorB3
import Derived.Test.YtpcfghnenhnlpaaGreatDoorB5
import Derived.Test.YtpcfghnenhnlpaaGreatDoorB13
import Derived.Test.YtpcfghnenhnlpaaGreatDoorB11
import Derived.Test.YtpcfghnenhnlpaaGreatDoorB10
import Derived.Test.YtpcfghnenhnlpaaGreatDoorB8
import Derived.Test.YtpcfghnenhnlpaaGreatDoorB18
import Derived.Test.YtpcfghnenhnlpaaGreatDoorB7
namespace Go.Proofs.YtpcfghnenhnlpaaGreatDoor
open Go.RowKit

/-- k words of bs are added at o; c is carried. -/
def WAddAt (z0 zs bs : List Nat) (o k c : Nat) : Prop := zs.length = z0.length ∧ WDig zs ∧ c ≤ 1 ∧ wval zs + 18446744073709551616 ^ (o + k) * c = wval z0 + 18446744073709551616 ^ o * wval (bs.take k)
theorem wadd_start {z0 : List Nat} (h : WDig z0) (bs : List Nat) (o : Nat) : WAddAt z0 z0 bs o 0 0 := ⟨rfl, h, by omega, by simp [wval]⟩
theorem wadd_step {z0 zs bs : List Nat} {o k c r b : Nat} (h : WAddAt z0 zs bs o k c) (hk : o + k < zs.length) (hr : r = zs.getD (o + k) 0) (hb : b = bs.getD k 0) (hb64 : b < 18446744073709551616) :
    WAddAt z0 (zs.set (o + k) ((r + b + c) % 18446744073709551616)) bs o (k + 1) ((r + b + c) / 18446744073709551616) := by
  obtain ⟨h1, h2, h3, h4⟩ := h
  have hr64 : r < 18446744073709551616 := by rw [hr]; exact h2 _
  refine ⟨by simpa using h1, wDig_set h2 hk (Nat.mod_lt _ (by omega)), by omega, ?_⟩
  have hs := wval_set zs (o + k) ((r + b + c) % 18446744073709551616) hk
  rw [← hr] at hs
  rw [wval_take_succ, ← hb, Nat.mul_add, ← Nat.mul_assoc, ← Nat.pow_add, ← Nat.add_assoc o k 1, Nat.pow_succ, Nat.mul_assoc]
  have e : 18446744073709551616 ^ (o + k) * ((r + b + c) % 18446744073709551616) + 18446744073709551616 ^ (o + k) * (18446744073709551616 * ((r + b + c) / 18446744073709551616)) = 18446744073709551616 ^ (o + k) * r + 18446744073709551616 ^ (o + k) * b + 18446744073709551616 ^ (o + k) * c := by
    rw [← Nat.mul_add, Nat.mod_add_div, Nat.mul_add, Nat.mul_add]
  omega
theorem wadd_room {z0 zs bs : List Nat} {o k c N : Nat} (h : WAddAt z0 zs bs o k c) (hk : bs.length ≤ k) (hc : 0 < c) (hr : wval z0 + 18446744073709551616 ^ o * wval bs < 18446744073709551616 ^ N) : o + k < N := by
  obtain ⟨_, _, h3, h4⟩ := h
  rw [wval_take_ge _ _ hk, show c = 1 from by omega, Nat.mul_one] at h4
  refine Nat.lt_of_not_le fun hle => ?_
  have := Nat.pow_le_pow_right (n := 18446744073709551616) (by omega) hle
  omega
theorem wadd_end {z0 zs bs : List Nat} {o k c : Nat} (h : WAddAt z0 zs bs o k c) (hk : bs.length ≤ k) (hc : c = 0) : wval zs = wval z0 + 18446744073709551616 ^ o * wval bs := by
  obtain ⟨_, _, _, h4⟩ := h
  rw [wval_take_ge _ _ hk, hc, Nat.mul_zero] at h4
  exact h4

/-- k words of bs are taken at o; c is borrowed. -/
def WSubAt (z0 zs bs : List Nat) (o k c : Nat) : Prop := zs.length = z0.length ∧ WDig zs ∧ c ≤ 1 ∧ wval zs + 18446744073709551616 ^ o * wval (bs.take k) = wval z0 + 18446744073709551616 ^ (o + k) * c
theorem wsub_start {z0 : List Nat} (h : WDig z0) (bs : List Nat) (o : Nat) : WSubAt z0 z0 bs o 0 0 := ⟨rfl, h, by omega, by simp [wval]⟩
theorem wsub_step {z0 zs bs : List Nat} {o k c r b : Nat} (h : WSubAt z0 zs bs o k c) (hk : o + k < zs.length) (hr : r = zs.getD (o + k) 0) (hb : b = bs.getD k 0) (hb64 : b < 18446744073709551616) :
    WSubAt z0 (zs.set (o + k) ((r + 18446744073709551616 - b - c) % 18446744073709551616)) bs o (k + 1) (if r < b + c then 1 else 0) := by
  obtain ⟨h1, h2, h3, h4⟩ := h
  have hr64 : r < 18446744073709551616 := by rw [hr]; exact h2 _
  refine ⟨by simpa using h1, wDig_set h2 hk (Nat.mod_lt _ (by omega)), by split <;> omega, ?_⟩
  have hs := wval_set zs (o + k) ((r + 18446744073709551616 - b - c) % 18446744073709551616) hk
  rw [← hr] at hs
  rw [wval_take_succ, ← hb, Nat.mul_add, ← Nat.mul_assoc, ← Nat.pow_add, ← Nat.add_assoc o k 1, Nat.pow_succ, Nat.mul_assoc]
  have hd : (r + 18446744073709551616 - b - c) % 18446744073709551616 + b + c = r + 18446744073709551616 * (if r < b + c then 1 else 0) := by split <;> omega
  have e : 18446744073709551616 ^ (o + k) * ((r + 18446744073709551616 - b - c) % 18446744073709551616) + 18446744073709551616 ^ (o + k) * b + 18446744073709551616 ^ (o + k) * c = 18446744073709551616 ^ (o + k) * r + 18446744073709551616 ^ (o + k) * (18446744073709551616 * (if r < b + c then 1 else 0)) := by
    rw [← Nat.mul_add, ← Nat.mul_add, hd, Nat.mul_add]
  omega
theorem wsub_end {z0 zs bs : List Nat} {o k : Nat} (h : WSubAt z0 zs bs o k 0) (hk : bs.length ≤ k) : wval zs + 18446744073709551616 ^ o * wval bs = wval z0 := by
  obtain ⟨_, _, _, h4⟩ := h
  rw [wval_take_ge _ _ hk, Nat.mul_zero] at h4
  exact h4
theorem wsub_less {z0 zs bs : List Nat} {o k : Nat} (h : WSubAt z0 zs bs o k 1) (hk : bs.length ≤ k) (hN : z0.length ≤ o + k) : wval z0 < 18446744073709551616 ^ o * wval bs := by
  obtain ⟨h1, h2, _, h4⟩ := h
  rw [wval_take_ge _ _ hk, Nat.mul_one] at h4
  have := wval_lt_pow h2
  have := Nat.pow_le_pow_right (n := 18446744073709551616) (by omega) hN
  rw [h1] at *
  omega

theorem word_carry (c : Nat) (h : c ≤ 1) : (c = 0 ∧ c = 0) ∨ (c ≠ 0 ∧ c = 1) := by omega

set_option maxRecDepth 100000 in
set_option maxHeartbeats 3200000 in
theorem addTo_any (w : World) (g o n cap bb ob cb lb : Nat) (gb : Option Addr) (z0 bs : List Nat) (hz : z0.length = o + n) (hbl : bs.length = lb) (hlb : lb ≤ n) (hn : o + n ≤ 1099511627776)
    (hZ : Blk w g z0) (dz : WDig z0) (hB : Rep w gb bb ob cb bs) (db : WDig bs) (hne : 0 < bs.length → bb ≠ g) (hroom : wval z0 + 18446744073709551616 ^ o * wval bs < 18446744073709551616 ^ (o + n)) :
    Calls Tryz.prog 73 #[.slice (some ⟨g, o, none⟩) n cap, .slice gb lb cb] w fun e w' => e = .returned (.tuple #[]) ∧ ∃ zs, zs.length = o + n ∧ WDig zs ∧ Blk w' g zs ∧ wval zs = wval z0 + 18446744073709551616 ^ o * wval bs ∧ w.grownBy w' (some g) := by
  have HROOM := hide hroom
  have HNE := hide hne
  clear hroom hne
  go_enter Tryz.func73, Tryz.ntmps73
  go_wp2
  go_loopw [4, 10] (fun c i wr => ∃ (k cy : Nat) (zs : List Nat), k ≤ lb ∧ c = .int .u64 (cy : Int) ∧ i = .int .i64 (k : Int) ∧ cy ≤ 1 ∧ Blk wr g zs ∧ Hid (WAddAt z0 zs bs o k cy) ∧ Rep wr gb bb ob cb bs ∧ w.grownBy wr (some g))
    (fun _ i _ => lb - (intOf i).toNat)
  case atStart => exact ⟨0, 0, z0, Nat.zero_le _, rfl, rfl, by omega, hZ, wadd_start dz bs o, hB, grown_refl _ _⟩
  case round =>
    obtain ⟨k, cy, zs, hk, rfl, rfl, hcy, hBlk, hAt, hRb, hG⟩ := hrel
    have hzl : zs.length = o + n := by rw [hAt.out.1]; exact hz
    by_cases h1 : k < lb
    · obtain rfl := hRb.head (by omega)
      obtain ⟨b, hb⟩ : ∃ b : Nat, b = bs.getD k 0 := ⟨_, rfl⟩
      have hb64 : b < 18446744073709551616 := by rw [hb]; exact db k
      have cb : wr.cell? ⟨bb, ob + k, none⟩ = some (.int .u64 (b : Int)) := by rw [hb]; exact hRb.cell k (by omega)
      obtain ⟨r, hr⟩ : ∃ r : Nat, r = zs.getD (o + k) 0 := ⟨_, rfl⟩
      have cr : wr.cell? ⟨g, o + k, none⟩ = some (.int .u64 (r : Int)) := by rw [hr]; exact hBlk.cell (o + k) (by omega)
      have fr := hBlk.frozen (o + k)
      have H2 := hide (wadd_step hAt.out (by omega) hr hb hb64)
      have CA := hide (fun w => word_add r b cy cy w (word_carry cy hcy))
      have hc2 := (unhide H2).2.2.1
      generalize (r + b + cy) % 18446744073709551616 = d at *
      generalize (r + b + cy) / 18446744073709551616 = c2 at *
      clear hr hb
      go_wp2_with fail
      refine (unhide CA _).mono ?_
      rintro e w1 ⟨rfl, rfl⟩
      go_wp2
      exact ⟨⟨k + 1, c2, _, by omega, rfl, by go_num, hc2, hBlk.set (o + k) d, H2, hRb.but (grown_set _ _ _ _) (unhide HNE), grown_trans hG (grown_set _ _ _ _)⟩, by simp [intOf]; omega⟩
    · obtain rfl : k = lb := by omega
      go_wp2
      go_loopw [4, 7] (fun c i wi => ∃ (q cy : Nat) (zs : List Nat), k ≤ q ∧ q ≤ n ∧ c = .int .u64 (cy : Int) ∧ i = .int .i64 (q : Int) ∧ cy ≤ 1 ∧ Blk wi g zs ∧ Hid (WAddAt z0 zs bs o q cy) ∧ w.grownBy wi (some g))
        (fun _ i _ => n - (intOf i).toNat)
      case atStart => exact ⟨k, cy, zs, Nat.le_refl _, hlb, rfl, rfl, hcy, hBlk, hAt, hG⟩
      case round =>
        obtain ⟨q, cy, zs, hq1, hq2, rfl, rfl, hcy, hBlk, hAt, hG⟩ := hrel
        have hzl : zs.length = o + n := by rw [hAt.out.1]; exact hz
        by_cases h2 : cy = 0
        · subst h2
          have hv := wadd_end hAt.out (by omega) rfl
          have HV := hide hv
          have HD := hide hAt.out.2.1
          clear hv hAt
          go_wp2
          go_end0
          exact ⟨rfl, zs, hzl, unhide HD, hBlk, unhide HV, hG⟩
        · obtain rfl : cy = 1 := by omega
          have hqn := wadd_room hAt.out (by omega) (by omega) (unhide HROOM)
          obtain ⟨r, hr⟩ : ∃ r : Nat, r = zs.getD (o + q) 0 := ⟨_, rfl⟩
          have cr : wr.cell? ⟨g, o + q, none⟩ = some (.int .u64 (r : Int)) := by rw [hr]; exact hBlk.cell (o + q) (by omega)
          have fr := hBlk.frozen (o + q)
          have H2 := hide (wadd_step (b := 0) hAt.out (by omega) hr (by rw [getD_ge (by omega)]) (by omega))
          have CA := hide (fun w => word_add r 0 1 1 w (Or.inr ⟨by omega, rfl⟩))
          have hc2 := (unhide H2).2.2.1
          generalize (r + 0 + 1) % 18446744073709551616 = d at *
          generalize (r + 0 + 1) / 18446744073709551616 = c2 at *
          have hqn2 : q < n := by omega
          clear hr hqn
          go_wp2_with fail
          refine (unhide CA _).mono ?_
          rintro e w1 ⟨rfl, rfl⟩
          go_wp2
          exact ⟨⟨q + 1, c2, _, by omega, by omega, rfl, by go_num, hc2, hBlk.set (o + q) d, H2, grown_trans hG (grown_set _ _ _ _)⟩, by simp [intOf]; omega⟩

/-- What takeFrom leaves: the row, and whether there was too little. -/
def TakeDone (w : World) (g o n : Nat) (z0 bs : List Nat) (e : Ending) (w' : World) : Prop := ∃ (c : Nat) (zs : List Nat), e = .returned (.int .u64 (c : Int)) ∧ c ≤ 1 ∧ zs.length = o + n ∧ WDig zs ∧ Blk w' g zs ∧ w.grownBy w' (some g) ∧
  ((c = 0 ∧ wval zs + 18446744073709551616 ^ o * wval bs = wval z0) ∨ (c = 1 ∧ wval z0 < 18446744073709551616 ^ o * wval bs))
theorem take_mk {w w' : World} {g o n : Nat} {z0 bs : List Nat} (c : Nat) (zs : List Nat) (h1 : c ≤ 1) (h2 : zs.length = o + n) (h3 : WDig zs) (h4 : Blk w' g zs) (h5 : w.grownBy w' (some g)) (h6 : (c = 0 ∧ wval zs + 18446744073709551616 ^ o * wval bs = wval z0) ∨ (c = 1 ∧ wval z0 < 18446744073709551616 ^ o * wval bs)) :
    TakeDone w g o n z0 bs (.returned (.int .u64 (c : Int))) w' := ⟨c, zs, rfl, h1, h2, h3, h4, h5, h6⟩

set_option maxRecDepth 100000 in
set_option maxHeartbeats 3200000 in
theorem takeFrom_any (w : World) (g o n cap bb ob cb lb : Nat) (gb : Option Addr) (z0 bs : List Nat) (hz : z0.length = o + n) (hbl : bs.length = lb) (hlb : lb ≤ n) (hn : o + n ≤ 1099511627776)
    (hZ : Blk w g z0) (dz : WDig z0) (hB : Rep w gb bb ob cb bs) (db : WDig bs) (hne : 0 < bs.length → bb ≠ g) :
    Calls Tryz.prog 71 #[.slice (some ⟨g, o, none⟩) n cap, .slice gb lb cb] w (TakeDone w g o n z0 bs) := by
  have HNE := hide hne
  clear hne
  go_enter Tryz.func71, Tryz.ntmps71
  go_wp2
  go_loopw [4, 10] (fun c i wr => ∃ (k cy : Nat) (zs : List Nat), k ≤ lb ∧ c = .int .u64 (cy : Int) ∧ i = .int .i64 (k : Int) ∧ cy ≤ 1 ∧ Blk wr g zs ∧ Hid (WSubAt z0 zs bs o k cy) ∧ Rep wr gb bb ob cb bs ∧ w.grownBy wr (some g))
    (fun _ i _ => lb - (intOf i).toNat)
  case atStart => exact ⟨0, 0, z0, Nat.zero_le _, rfl, rfl, by omega, hZ, wsub_start dz bs o, hB, grown_refl _ _⟩
  case round =>
    obtain ⟨k, cy, zs, hk, rfl, rfl, hcy, hBlk, hAt, hRb, hG⟩ := hrel
    have hzl : zs.length = o + n := by rw [hAt.out.1]; exact hz
    by_cases h1 : k < lb
    · obtain rfl := hRb.head (by omega)
      obtain ⟨b, hb⟩ : ∃ b : Nat, b = bs.getD k 0 := ⟨_, rfl⟩
      have hb64 : b < 18446744073709551616 := by rw [hb]; exact db k
      have cb : wr.cell? ⟨bb, ob + k, none⟩ = some (.int .u64 (b : Int)) := by rw [hb]; exact hRb.cell k (by omega)
      obtain ⟨r, hr⟩ : ∃ r : Nat, r = zs.getD (o + k) 0 := ⟨_, rfl⟩
      have cr : wr.cell? ⟨g, o + k, none⟩ = some (.int .u64 (r : Int)) := by rw [hr]; exact hBlk.cell (o + k) (by omega)
      have fr := hBlk.frozen (o + k)
      have H2 := hide (wsub_step hAt.out (by omega) hr hb hb64)
      have CA := hide (fun w => word_sub r b cy cy w (word_carry cy hcy))
      have hc2 := (unhide H2).2.2.1
      generalize (r + 18446744073709551616 - b - cy) % 18446744073709551616 = d at *
      generalize (if r < b + cy then 1 else 0) = c2 at *
      clear hr hb
      go_wp2_with fail
      refine (unhide CA _).mono ?_
      rintro e w1 ⟨rfl, rfl⟩
      go_wp2
      exact ⟨⟨k + 1, c2, _, by omega, rfl, by go_num, hc2, hBlk.set (o + k) d, H2, hRb.but (grown_set _ _ _ _) (unhide HNE), grown_trans hG (grown_set _ _ _ _)⟩, by simp [intOf]; omega⟩
    · obtain rfl : k = lb := by omega
      go_wp2
      go_loopw [4, 7] (fun c i wi => ∃ (q cy : Nat) (zs : List Nat), k ≤ q ∧ q ≤ n ∧ c = .int .u64 (cy : Int) ∧ i = .int .i64 (q : Int) ∧ cy ≤ 1 ∧ Blk wi g zs ∧ Hid (WSubAt z0 zs bs o q cy) ∧ w.grownBy wi (some g))
        (fun _ i _ => n - (intOf i).toNat)
      case atStart => exact ⟨k, cy, zs, Nat.le_refl _, hlb, rfl, rfl, hcy, hBlk, hAt, hG⟩
      case round =>
        obtain ⟨q, cy, zs, hq1, hq2, rfl, rfl, hcy, hBlk, hAt, hG⟩ := hrel
        have hzl : zs.length = o + n := by rw [hAt.out.1]; exact hz
        by_cases h2 : cy = 0
        · subst h2
          have hv := wsub_end hAt.out (by omega)
          have HV := hide hv
          have HD := hide hAt.out.2.1
          clear hv hAt
          by_cases h3 : q < n
          · go_wp2
            go_ret
            exact take_mk 0 zs (by omega) hzl (unhide HD) hBlk hG (Or.inl ⟨rfl, unhide HV⟩)
          · go_wp2
            go_ret
            exact take_mk 0 zs (by omega) hzl (unhide HD) hBlk hG (Or.inl ⟨rfl, unhide HV⟩)
        · obtain rfl : cy = 1 := by omega
          by_cases h3 : q < n
          · obtain ⟨r, hr⟩ : ∃ r : Nat, r = zs.getD (o + q) 0 := ⟨_, rfl⟩
            have cr : wr.cell? ⟨g, o + q, none⟩ = some (.int .u64 (r : Int)) := by rw [hr]; exact hBlk.cell (o + q) (by omega)
            have fr := hBlk.frozen (o + q)
            have H2 := hide (wsub_step (b := 0) hAt.out (by omega) hr (by rw [getD_ge (by omega)]) (by omega))
            have CA := hide (fun w => word_sub r 0 1 1 w (Or.inr ⟨by omega, rfl⟩))
            have hc2 := (unhide H2).2.2.1
            generalize (r + 18446744073709551616 - 0 - 1) % 18446744073709551616 = d at *
            generalize (if r < 0 + 1 then 1 else 0) = c2 at *
            clear hr
            go_wp2_with fail
            refine (unhide CA _).mono ?_
            rintro e w1 ⟨rfl, rfl⟩
            go_wp2
            exact ⟨⟨q + 1, c2, _, by omega, by omega, rfl, by go_num, hc2, hBlk.set (o + q) d, H2, grown_trans hG (grown_set _ _ _ _)⟩, by simp [intOf]; omega⟩
          · have hv := wsub_less hAt.out (by omega) (by omega)
            have HV := hide hv
            have HD := hide hAt.out.2.1
            clear hv hAt
            go_wp2
            go_ret
            exact take_mk 1 zs (by omega) hzl (unhide HD) hBlk hG (Or.inr ⟨rfl, unhide HV⟩)

end Go.Proofs.YtpcfghnenhnlpaaGreatDoor

/- Norm, One, Add, Sub of limb. -/
namespace Go.Proofs.YtpcfghnenhnlpaaGreatDoor
open Go.RowKit

/-- trim of a row that came in. -/
theorem trim_in {w : World} {v : Value} {n : Nat} (h : InW w v n) : ∃ ga b o cap us, Rep w ga b o cap us ∧ WCan us ∧ wval us = n ∧ us.length ≤ 1073741824 ∧ Calls Tryz.prog 58 #[v] w fun e w' => e = .returned (.slice ga us.length cap) ∧ w' = w := by
  obtain ⟨ga, b, o, cap, xs, rfl, hr, hd, hv, hl⟩ := h
  have hle := nlen_le xs xs.length
  exact ⟨ga, b, o, cap, nrm xs, hr.take _ hle, nrm_wcan hd, by rw [nrm_wval]; exact hv, by rw [nrm_length]; omega, trim_any w ga b o cap _ _ xs rfl (by omega) hr (nrm_length xs)⟩

theorem wval_pad (us : List Nat) (j : Nat) : wval (us ++ List.replicate j 0) = wval us := by rw [wval_append, (wzeros j).2, Nat.mul_zero, Nat.add_zero]
theorem wDig_pad {us : List Nat} (h : WDig us) (j : Nat) : WDig (us ++ List.replicate j 0) := wDig_append h (wzeros j).1
theorem add_room {us vs : List Nat} {N : Nat} (h1 : WDig us) (h2 : WDig vs) (hN : N = max us.length vs.length + 1) : wval us + wval vs < 18446744073709551616 ^ N := by
  have a := pow_up (wval_lt_pow h1) (q := N - 1) (by omega)
  have b := pow_up (wval_lt_pow h2) (q := N - 1) (by omega)
  have := pow_sum a b
  rwa [show N - 1 + 1 = N from by omega] at this

/-- trim of a row in a block of its own. -/
theorem trim_blk {B : Nat} {w : World} {g N : Nat} {zs : List Nat} (hl : zs.length = N) (hN : N ≤ 1099511627776) (hg : B ≤ g) (hk : Blk w g zs) (hd : WDig zs) :
    Calls Tryz.prog 58 #[.slice (some ⟨g, 0, none⟩) N N] w fun e w' => ∃ v, e = .returned v ∧ NewW B w v (wval zs) ∧ w' = w := by
  subst hl
  have hr := hk.rep 0 zs.length zs.length (by omega) (Nat.le_refl _)
  rw [List.drop_zero, List.take_length] at hr
  refine (trim_any w _ g 0 _ _ _ zs rfl hN hr rfl).mono ?_
  rintro e w' ⟨rfl, rfl⟩
  exact ⟨_, rfl, newW_blk hg hk hd hN, rfl⟩

set_option maxRecDepth 100000 in
set_option maxHeartbeats 1600000 in
theorem add_w (w : World) (u v : Value) (m n : Nat) (hu : InW w u m) (hv : InW w v n) :
    Calls Tryz.prog 54 #[u, v] w fun e w' => ∃ r, e = .returned r ∧ NewW w.heap.size w' r (m + n) ∧ Below w.heap.size w w' := by
  obtain ⟨ga, ba, oa, ca, us, rA, cA, vA, lA, CA⟩ := trim_in hu
  obtain ⟨gb, bb, ob, cb, vs, rB, cB, vB, lB, CB⟩ := trim_in hv
  obtain ⟨N, hN⟩ : ∃ N, N = max us.length vs.length + 1 := ⟨_, rfl⟩
  have hroom := add_room cA.1 cB.1 hN
  have hbN : vs.length ≤ N := by omega
  have hNb : N ≤ 1073741825 := by omega
  have CA := hide CA
  have CB := hide CB
  have HN := hide hN
  have hzl : (us ++ List.replicate (N - us.length) 0).length = 0 + N := by simp; omega
  obtain ⟨la, hla⟩ : ∃ la, la = us.length := ⟨_, rfl⟩
  obtain ⟨lb, hlb⟩ : ∃ lb, lb = vs.length := ⟨_, rfl⟩
  rw [← hla] at CA lA HN hzl
  rw [← hlb] at CB lB HN hbN
  have HLA := hide hla
  have HLB := hide hlb
  have HR := hide hroom
  clear hu hv hN hroom hla hlb
  go_enter Tryz.func54, Tryz.ntmps54
  go_wp2_with fail
  refine (unhide CA).mono ?_
  rintro e w1 ⟨rfl, rfl⟩
  go_wp2_with fail
  refine (unhide CB).mono ?_
  rintro e w2 ⟨rfl, rfl⟩
  clear CA CB
  go_wp2_with fail
  refine (wider_any _ ga gb ba oa ca cb la lb N us (unhide HLA).symm (by omega) (by omega) rA (unhide HN)).mono ?_
  rintro e w3 ⟨rfl, k3, b3⟩
  go_wp2_with fail
  refine (addTo_any _ w2.heap.size 0 N N bb ob cb lb gb _ vs hzl (unhide HLB).symm hbN (by omega) k3 (wDig_pad cA.1 _) (rB.next b3) cB.1 (fun h => by have := rB.lt h; omega) (by rw [wval_pad, Nat.pow_zero, Nat.one_mul, Nat.zero_add]; exact unhide HR)).mono ?_
  rintro e w4 ⟨rfl, zs, hl, hd, k4, hv4, g4⟩
  rw [wval_pad, Nat.pow_zero, Nat.one_mul, vA, vB] at hv4
  have b4 := below_grown b3 g4 (Nat.le_refl _) b3.size
  have HV := hide hv4
  clear hv4 g4 k3
  go_wp2_with fail
  refine (trim_blk (B := w2.heap.size) (by omega) (by omega) (Nat.le_refl _) k4 hd).mono ?_
  rintro e w5 ⟨r, rfl, hr, rfl⟩
  rw [unhide HV] at hr
  go_wp2
  go_ret
  exact ⟨r, rfl, hr, b4⟩

/-- What Sub and SubMul leave. -/
def SubDone (w : World) (m n : Nat) (e : Ending) (w' : World) : Prop := Below w.heap.size w w' ∧ ((n ≤ m ∧ ∃ r, e = .returned (.tuple #[r, .bool true]) ∧ NewW w.heap.size w' r (m - n)) ∨ (m < n ∧ e = .returned (.tuple #[.slice none 0 0, .bool false])))
theorem sub_no_mk {w w' : World} {m n : Nat} (hb : Below w.heap.size w w') (h : m < n) : SubDone w m n (.returned (.tuple #[.slice none 0 0, .bool false])) w' := ⟨hb, Or.inr ⟨h, rfl⟩⟩
theorem sub_yes_mk {w w' : World} {m n : Nat} {r : Value} (hb : Below w.heap.size w w') (h : n ≤ m) (hr : NewW w.heap.size w' r (m - n)) : SubDone w m n (.returned (.tuple #[r, .bool true])) w' := ⟨hb, Or.inl ⟨h, r, rfl, hr⟩⟩

set_option maxRecDepth 100000 in
set_option maxHeartbeats 1600000 in
theorem sub_w (w : World) (u v : Value) (m n : Nat) (hu : InW w u m) (hv : InW w v n) :
    Calls Tryz.prog 53 #[u, v] w (SubDone w m n) := by
  obtain ⟨ga, ba, oa, ca, us, rA, cA, vA, lA, CA⟩ := trim_in hu
  obtain ⟨gb, bb, ob, cb, vs, rB, cB, vB, lB, CB⟩ := trim_in hv
  have hlt : us.length < vs.length → m < n := fun h => by have := wlen_lt cA.1 cB h; omega
  have CA := hide CA
  have CB := hide CB
  have HLT := hide hlt
  obtain ⟨la, hla⟩ : ∃ la, la = us.length := ⟨_, rfl⟩
  obtain ⟨lb, hlb⟩ : ∃ lb, lb = vs.length := ⟨_, rfl⟩
  rw [← hla] at CA lA HLT
  rw [← hlb] at CB lB HLT
  have HLA := hide hla
  have HLB := hide hlb
  clear hu hv hlt hla hlb
  go_enter Tryz.func53, Tryz.ntmps53
  go_wp2_with fail
  refine (unhide CA).mono ?_
  rintro e w1 ⟨rfl, rfl⟩
  go_wp2_with fail
  refine (unhide CB).mono ?_
  rintro e w2 ⟨rfl, rfl⟩
  clear CA CB
  by_cases h1 : la < lb
  · go_wp2
    go_ret2
    exact sub_no_mk (Below.refl _ _) (unhide HLT h1)
  · go_wp2_with fail
    refine (copyOf_any _ ga ba oa ca la us (unhide HLA).symm (by omega) rA).mono ?_
    rintro e w3 ⟨rfl, k3, b3⟩
    go_wp2_with fail
    refine (takeFrom_any _ w2.heap.size 0 la la bb ob cb lb gb us vs (by rw [← unhide HLA]; omega) (unhide HLB).symm (by omega) (by omega) k3 cA.1 (rB.next b3) cB.1 (fun h => by have := rB.lt h; omega)).mono ?_
    rintro e w4 ⟨c, zs, rfl, hc1, hl, hd, k4, g4, hres⟩
    rw [Nat.pow_zero, Nat.one_mul, vA, vB] at hres
    have b4 := below_grown b3 g4 (Nat.le_refl _) b3.size
    clear g4 k3
    rcases hres with ⟨rfl, hv4⟩ | ⟨rfl, hv4⟩
    · have HV := hide hv4
      clear hv4
      go_wp2_with fail
      refine (trim_blk (B := w2.heap.size) (by omega) (by omega) (Nat.le_refl _) k4 hd).mono ?_
      rintro e w5 ⟨r, rfl, hr, rfl⟩
      have hle : n ≤ m := by have := unhide HV; omega
      have he : wval zs = m - n := by have := unhide HV; omega
      rw [he] at hr
      clear he
      go_wp2
      go_ret2
      exact sub_yes_mk b4 hle hr
    · go_wp2
      go_ret2
      exact sub_no_mk b4 hv4

set_option maxRecDepth 100000 in
set_option maxHeartbeats 1600000 in
theorem norm_w (w : World) (u : Value) (m : Nat) (hu : InW w u m) :
    Calls Tryz.prog 46 #[u] w fun e w' => ∃ r, e = .returned r ∧ NewW w.heap.size w' r m ∧ Below w.heap.size w w' := by
  obtain ⟨ga, ba, oa, ca, us, rA, cA, vA, lA, CA⟩ := trim_in hu
  have CA := hide CA
  obtain ⟨la, hla⟩ : ∃ la, la = us.length := ⟨_, rfl⟩
  rw [← hla] at CA lA
  have HLA := hide hla
  clear hu hla
  go_enter Tryz.func46, Tryz.ntmps46
  go_wp2_with fail
  refine (unhide CA).mono ?_
  rintro e w1 ⟨rfl, rfl⟩
  clear CA
  go_wp2_with fail
  refine (copyOf_any _ ga ba oa ca la us (unhide HLA).symm (by omega) rA).mono ?_
  rintro e w3 ⟨rfl, k3, b3⟩
  go_wp2
  go_ret
  refine ⟨_, rfl, ⟨us, cA, vA, Or.inr ⟨w1.heap.size, [], Nat.le_refl _, ?_, by rw [List.append_nil]; exact k3, by rw [← unhide HLA]; simp; omega⟩⟩, b3⟩
  rw [List.append_nil, ← unhide HLA]
  rfl

set_option maxRecDepth 100000 in
set_option maxHeartbeats 1600000 in
theorem one_w (w : World) (x : Nat) (hx : x < 18446744073709551616) :
    Calls Tryz.prog 49 #[.int .u64 (x : Int)] w fun e w' => ∃ r, e = .returned r ∧ NewW w.heap.size w' r x ∧ Below w.heap.size w w' := by
  have hk : Blk (w.alloc (.cells #[.int .u64 (x : Int)] 44)) w.heap.size [x] := heap_alloc_new w _
  have hb : Below w.heap.size w (w.alloc (.cells #[.int .u64 (x : Int)] 44)) := (Below.refl _ _).alloc (Nat.le_refl _) _
  have CT := hide (trim_blk (N := 1) rfl (by omega) (Nat.le_refl _) hk (wDig_one hx))
  have HB := hide hb
  rw [wval_one] at CT
  clear hk hb
  go_enter Tryz.func49, Tryz.ntmps49
  go_wp2_with fail
  refine (unhide CT).mono ?_
  rintro e w3 ⟨r, rfl, hr, rfl⟩
  go_wp2
  go_ret
  exact ⟨r, rfl, hr, unhide HB⟩

end Go.Proofs.YtpcfghnenhnlpaaGreatDoor

/- Plain mathematics of products by hand. Nothing of any program here. -/
namespace Go.Proofs.YtpcfghnenhnlpaaGreatDoor

/-- k words of bs times y are added from place o on; c is carried; all other words are as they were. -/
def SAt (z0 zs bs : List Nat) (y o k c : Nat) : Prop :=
  zs.length = z0.length ∧ WDig zs ∧ c < 18446744073709551616 ∧ wval zs + 18446744073709551616 ^ (o + k) * c = wval z0 + 18446744073709551616 ^ o * (y * wval (bs.take k)) ∧
    ∀ j, o + k ≤ j → zs.getD j 0 = z0.getD j 0
theorem s_start {z0 : List Nat} (h : WDig z0) (bs : List Nat) (y o : Nat) : SAt z0 z0 bs y o 0 0 := ⟨rfl, h, by omega, by simp [wval], fun _ _ => rfl⟩

/-- The product of two words, with two words more, has room in two words. -/
theorem s_parts {b y c r h0 l0 l1 c1 h1 d c2 c3 : Nat} (hb : b < 18446744073709551616) (hy : y < 18446744073709551616) (hc : c < 18446744073709551616) (hr : r < 18446744073709551616)
    (e0 : h0 = b * y / 18446744073709551616) (e1 : l0 = b * y % 18446744073709551616) (e2 : l1 = (l0 + c + 0) % 18446744073709551616) (e3 : c1 = (l0 + c + 0) / 18446744073709551616) (e4 : h1 = h0 + c1)
    (e5 : d = (r + l1 + 0) % 18446744073709551616) (e6 : c2 = (r + l1 + 0) / 18446744073709551616) (e7 : c3 = h1 + c2) :
    h1 < 18446744073709551616 ∧ c3 < 18446744073709551616 ∧ d < 18446744073709551616 ∧ d + 18446744073709551616 * c3 = r + b * y + c := by
  have hp : b * y ≤ 18446744073709551615 * 18446744073709551615 := Nat.mul_le_mul (by omega) (by omega)
  generalize b * y = p at *
  omega

theorem s_step {z0 zs bs : List Nat} {y o k c r b d c3 : Nat} (h : SAt z0 zs bs y o k c) (hk : o + k < zs.length) (hr : r = zs.getD (o + k) 0) (hb : b = bs.getD k 0)
    (hd : d < 18446744073709551616) (hc3 : c3 < 18446744073709551616) (he : d + 18446744073709551616 * c3 = r + b * y + c) : SAt z0 (zs.set (o + k) d) bs y o (k + 1) c3 := by
  obtain ⟨h1, h2, h3, h4, h5⟩ := h
  refine ⟨by simpa using h1, wDig_set h2 hk hd, hc3, ?_, fun j hj => ?_⟩
  · have hs := wval_set zs (o + k) d hk
    rw [← hr] at hs
    rw [wval_take_succ, ← hb, Nat.mul_add y, Nat.mul_left_comm y, Nat.mul_add, ← Nat.mul_assoc (18446744073709551616 ^ o) (18446744073709551616 ^ k), ← Nat.pow_add, ← Nat.add_assoc o k 1, Nat.pow_succ, Nat.mul_assoc (18446744073709551616 ^ (o + k))]
    have e : 18446744073709551616 ^ (o + k) * d + 18446744073709551616 ^ (o + k) * (18446744073709551616 * c3) = 18446744073709551616 ^ (o + k) * r + 18446744073709551616 ^ (o + k) * (y * b) + 18446744073709551616 ^ (o + k) * c := by
      rw [← Nat.mul_add, he, Nat.mul_add, Nat.mul_add, Nat.mul_comm b y]
    omega
  · rw [← h5 j (by omega)]
    simp [List.getD_eq_getElem?_getD, show ¬ o + k = j by omega]

/-- The words from place k on are noughts. -/
def Nought (zs : List Nat) (k : Nat) : Prop := ∀ j, k ≤ j → zs.getD j 0 = 0
theorem nought_all (n k : Nat) : Nought (List.replicate n 0) k := fun j _ => by simp [List.getD_eq_getElem?_getD, List.getElem?_replicate]; split <;> rfl
theorem wval_noughts : ∀ n, wval (List.replicate n 0) = 0
  | 0 => rfl
  | n + 1 => by rw [List.replicate_succ, wval, wval_noughts n]
theorem wDig_noughts (n : Nat) : WDig (List.replicate n 0) := fun j => by rw [nought_all n 0 j (by omega)]; omega

/-- What is carried is laid on top of what was added. -/
theorem s_top {z0 zs bs : List Nat} {y o k c : Nat} (h : SAt z0 zs bs y o k c) (hk : bs.length ≤ k) (hz : Nought z0 (o + k)) (ho : o + k < zs.length) :
    (zs.set (o + k) c).length = z0.length ∧ WDig (zs.set (o + k) c) ∧ wval (zs.set (o + k) c) = wval z0 + 18446744073709551616 ^ o * (y * wval bs) ∧ Nought (zs.set (o + k) c) (o + k + 1) := by
  obtain ⟨h1, h2, h3, h4, h5⟩ := h
  refine ⟨by simpa using h1, wDig_set h2 ho h3, ?_, fun j hj => ?_⟩
  · have hs := wval_set zs (o + k) c ho
    rw [h5 _ (Nat.le_refl _), hz _ (Nat.le_refl _), Nat.mul_zero] at hs
    rw [wval_take_ge _ _ hk] at h4
    omega
  · have : (zs.set (o + k) c).getD j 0 = zs.getD j 0 := by simp [List.getD_eq_getElem?_getD, show ¬ o + k = j by omega]
    rw [this, h5 j (by omega), hz j (by omega)]

/-- k words of bs are multiplied by xs, and summed. -/
def MRow (xs bs zs : List Nat) (N k : Nat) : Prop := zs.length = N ∧ WDig zs ∧ wval zs = wval xs * wval (bs.take k) ∧ Nought zs (k + xs.length)
theorem m_start (xs bs : List Nat) (N : Nat) : MRow xs bs (List.replicate N 0) N 0 := ⟨by simp, wDig_noughts _, by rw [wval_noughts]; simp [wval], nought_all _ _⟩
theorem m_step {xs bs z0 zs : List Nat} {N k c y : Nat} (h : MRow xs bs z0 N k) (hs : SAt z0 zs xs y k xs.length c) (hy : y = bs.getD k 0) (hk : k + xs.length < N) : MRow xs bs (zs.set (k + xs.length) c) N (k + 1) := by
  obtain ⟨h1, h2, h3, h4⟩ := h
  obtain ⟨t1, t2, t3, t4⟩ := s_top hs (Nat.le_refl _) h4 (by rw [hs.1, h1]; exact hk)
  refine ⟨by rw [t1, h1], t2, ?_, fun j hj => t4 j (by omega)⟩
  rw [t3, h3, wval_take_succ, ← hy, Nat.mul_add, Nat.mul_left_comm (wval xs), Nat.mul_comm (wval xs) y]

end Go.Proofs.YtpcfghnenhnlpaaGreatDoor

/- addTimes of school: a row times a word is added to a piece of another. -/
namespace Go.Proofs.YtpcfghnenhnlpaaGreatDoor
open Go.RowKit

set_option maxRecDepth 100000 in
set_option maxHeartbeats 3200000 in
theorem addTimes_any (w : World) (g o n cap bb ob cb lb y : Nat) (gb : Option Addr) (z0 bs : List Nat) (hz : z0.length = o + n) (hbl : bs.length = lb) (hlb : lb ≤ n) (hn : o + n ≤ 1099511627776) (hy : y < 18446744073709551616)
    (hZ : Blk w g z0) (dz : WDig z0) (hB : Rep w gb bb ob cb bs) (db : WDig bs) (hne : 0 < bs.length → bb ≠ g) :
    Calls Tryz.prog 115 #[.slice (some ⟨g, o, none⟩) n cap, .slice gb lb cb, .int .u64 (y : Int)] w fun e w' => ∃ (c : Nat) (zs : List Nat), e = .returned (.int .u64 (c : Int)) ∧ SAt z0 zs bs y o lb c ∧ Blk w' g zs ∧ w.grownBy w' (some g) := by
  have HNE := hide hne
  clear hne
  go_enter Tryz.func115, Tryz.ntmps115
  go_wp2
  go_loopw [6, 14] (fun c i wr => ∃ (k cy : Nat) (zs : List Nat), k ≤ lb ∧ c = .int .u64 (cy : Int) ∧ i = .int .i64 (k : Int) ∧ cy < 18446744073709551616 ∧ Blk wr g zs ∧ Hid (SAt z0 zs bs y o k cy) ∧ Rep wr gb bb ob cb bs ∧ w.grownBy wr (some g))
    (fun _ i _ => lb - (intOf i).toNat)
  case atStart => exact ⟨0, 0, z0, Nat.zero_le _, rfl, rfl, by omega, hZ, s_start dz bs y o, hB, grown_refl _ _⟩
  case round =>
    obtain ⟨k, cy, zs, hk, rfl, rfl, hcy, hBlk, hAt, hRb, hG⟩ := hrel
    have hzl : zs.length = o + n := by rw [hAt.out.1]; exact hz
    by_cases h1 : k < lb
    · obtain rfl := hRb.head (by omega)
      obtain ⟨b, hb⟩ : ∃ b : Nat, b = bs.getD k 0 := ⟨_, rfl⟩
      have hb64 : b < 18446744073709551616 := by rw [hb]; exact db k
      have cb : wr.cell? ⟨bb, ob + k, none⟩ = some (.int .u64 (b : Int)) := by rw [hb]; exact hRb.cell k (by omega)
      obtain ⟨r, hr⟩ : ∃ r : Nat, r = zs.getD (o + k) 0 := ⟨_, rfl⟩
      have hr64 : r < 18446744073709551616 := by rw [hr]; exact hAt.out.2.1 _
      have cr : wr.cell? ⟨g, o + k, none⟩ = some (.int .u64 (r : Int)) := by rw [hr]; exact hBlk.cell (o + k) (by omega)
      have fr := hBlk.frozen (o + k)
      obtain ⟨h0, e0⟩ : ∃ h0, h0 = b * y / 18446744073709551616 := ⟨_, rfl⟩
      obtain ⟨l0, e1⟩ : ∃ l0, l0 = b * y % 18446744073709551616 := ⟨_, rfl⟩
      obtain ⟨l1, e2⟩ : ∃ l1, l1 = (l0 + cy + 0) % 18446744073709551616 := ⟨_, rfl⟩
      obtain ⟨c1, e3⟩ : ∃ c1, c1 = (l0 + cy + 0) / 18446744073709551616 := ⟨_, rfl⟩
      obtain ⟨h1', e4⟩ : ∃ h1', h1' = h0 + c1 := ⟨_, rfl⟩
      obtain ⟨d, e5⟩ : ∃ d, d = (r + l1 + 0) % 18446744073709551616 := ⟨_, rfl⟩
      obtain ⟨c2, e6⟩ : ∃ c2, c2 = (r + l1 + 0) / 18446744073709551616 := ⟨_, rfl⟩
      obtain ⟨c3, e7⟩ : ∃ c3, c3 = h1' + c2 := ⟨_, rfl⟩
      obtain ⟨q1, q2, q3, q4⟩ := s_parts hb64 hy hcy hr64 e0 e1 e2 e3 e4 e5 e6 e7
      have H2 := hide (s_step hAt.out (by omega) hr hb q3 q2 q4)
      have CM := hide (fun w => word_mul b y w hb64 hy)
      have CA := hide (fun w => word_add l0 cy 0 0 w (Or.inl ⟨rfl, rfl⟩))
      have CB := hide (fun w => word_add r l1 0 0 w (Or.inl ⟨rfl, rfl⟩))
      rw [← e0, ← e1] at CM
      rw [← e2, ← e3] at CA
      rw [← e5, ← e6] at CB
      have E4 : (h0 : Int) + (c1 : Int) = (h1' : Int) := by omega
      have E7 : (h1' : Int) + (c2 : Int) = (c3 : Int) := by omega
      clear hr hb e0 e1 e2 e3 e4 e5 e6 e7 q4
      go_wp2_with fail
      refine (unhide CM _).mono ?_
      rintro e w1 ⟨rfl, rfl⟩
      go_wp2_with fail
      refine (unhide CA _).mono ?_
      rintro e w2 ⟨rfl, rfl⟩
      go_wp2_with fail
      refine (unhide CB _).mono ?_
      rintro e w3 ⟨rfl, rfl⟩
      go_wp2
      exact ⟨⟨k + 1, c3, _, by omega, by first | rfl | exact congrArg (Value.int .u64) E7, by go_num, q2, hBlk.set (o + k) d, H2, hRb.but (grown_set _ _ _ _) (unhide HNE), grown_trans hG (grown_set _ _ _ _)⟩, by simp [intOf]; omega⟩
    · obtain rfl : k = lb := by omega
      go_wp2
      go_ret
      exact ⟨cy, zs, rfl, hAt.out, hBlk, hG⟩

end Go.Proofs.YtpcfghnenhnlpaaGreatDoor

/- crossProducts and squares of school. -/
namespace Go.Proofs.YtpcfghnenhnlpaaGreatDoor
open Go.RowKit

theorem blk_noughts (w : World) (n : Nat) : Blk (w.alloc (.cells (zlist n).toArray 44)) w.heap.size (List.replicate n 0) := heap_alloc_new w _

theorem Rep.drop {w : World} {ga : Option Addr} {b o cap : Nat} {xs : List Nat} (h : Rep w ga b o cap xs) (s : Nat) (hs : s ≤ xs.length) : Rep w (some ⟨b, o + s, none⟩) b (o + s) (cap - s) (xs.drop s) :=
  ⟨fun _ => rfl, by have := h.room; simp; omega, fun j hj => by
    have hj' : s + j < xs.length := by simp at hj; omega
    have := h.cell (s + j) hj'
    rw [Nat.add_assoc, this]
    simp [List.getD_eq_getElem?_getD]⟩

end Go.Proofs.YtpcfghnenhnlpaaGreatDoor

/- squares of school. -/
namespace Go.Proofs.YtpcfghnenhnlpaaGreatDoor
open Go.RowKit

end Go.Proofs.YtpcfghnenhnlpaaGreatDoor

/- Cmp of limb, and Compare of package cmp. -/
namespace Go.Proofs.YtpcfghnenhnlpaaGreatDoor
open Go.RowKit

set_option maxHeartbeats 800000 in
theorem compare_int (x y : Nat) (w : World) : Calls Tryz.prog 59 #[.int .i64 (x : Int), .int .i64 (y : Int)] w fun e w' => e = .returned (.int .i64 (cmpN x y)) ∧ w' = w := by
  have q1 : ((x : Int) != (x : Int)) = false := by simp
  have q2 : ((y : Int) != (y : Int)) = false := by simp
  rcases Nat.lt_trichotomy x y with h | h | h
  · rw [cmpN_lt h]
    have h1 : (x : Int) < (y : Int) := by omega
    go_enter Tryz.func59, Tryz.ntmps59
    go_wp2
    go_ret
    exact ⟨rfl, rfl⟩
  · rw [cmpN_eq h]
    have h1 : ¬ (x : Int) < (y : Int) := by omega
    have h2 : ¬ (y : Int) < (x : Int) := by omega
    clear h
    go_enter Tryz.func59, Tryz.ntmps59
    go_wp2
    go_ret
    exact ⟨rfl, rfl⟩
  · rw [cmpN_gt h]
    have h1 : ¬ (x : Int) < (y : Int) := by omega
    have h2 : (y : Int) < (x : Int) := by omega
    go_enter Tryz.func59, Tryz.ntmps59
    go_wp2
    go_ret
    exact ⟨rfl, rfl⟩

set_option maxHeartbeats 800000 in
theorem compare_u64 (x y : Nat) (w : World) : Calls Tryz.prog 60 #[.int .u64 (x : Int), .int .u64 (y : Int)] w fun e w' => e = .returned (.int .i64 (cmpN x y)) ∧ w' = w := by
  have q1 : ((x : Int) != (x : Int)) = false := by simp
  have q2 : ((y : Int) != (y : Int)) = false := by simp
  rcases Nat.lt_trichotomy x y with h | h | h
  · rw [cmpN_lt h]
    have h1 : (x : Int) < (y : Int) := by omega
    go_enter Tryz.func60, Tryz.ntmps60
    go_wp2
    go_ret
    exact ⟨rfl, rfl⟩
  · rw [cmpN_eq h]
    have h1 : ¬ (x : Int) < (y : Int) := by omega
    have h2 : ¬ (y : Int) < (x : Int) := by omega
    clear h
    go_enter Tryz.func60, Tryz.ntmps60
    go_wp2
    go_ret
    exact ⟨rfl, rfl⟩
  · rw [cmpN_gt h]
    have h1 : ¬ (x : Int) < (y : Int) := by omega
    have h2 : (y : Int) < (x : Int) := by omega
    go_enter Tryz.func60, Tryz.ntmps60
    go_wp2
    go_ret
    exact ⟨rfl, rfl⟩

/-- A callee that draws nothing, met behind two regions that draw. -/
theorem quiet_two {P : Program} {f : FuncId} {args : Array Value} {w : World} {q n : Nat} {v : Value} (h : Calls P f args (w.drewN (q + n)) fun e w' => e = .returned v ∧ w' = w.drewN (q + n)) : Calls P f args (w.drewN (q + n)) fun e w'' => e = .returned v ∧ ∃ m, w'' = w.drewN (q + m) :=
  h.mono fun _ _ ⟨he, hm⟩ => ⟨he, n, hm⟩

theorem cmpN_of {m n a b : Nat} (h1 : a < b → m < n) (h2 : b < a → n < m) (h : a ≠ b) : cmpN a b = cmpN m n := by
  rcases Nat.lt_trichotomy a b with k | k | k
  · rw [cmpN_lt k, cmpN_lt (h1 k)]
  · exact absurd k h
  · rw [cmpN_gt k, cmpN_gt (h2 k)]

set_option maxRecDepth 100000 in
set_option maxHeartbeats 3200000 in
theorem cmp_w (w : World) (u v : Value) (m n : Nat) (hu : InW w u m) (hv : InW w v n) :
    Calls Tryz.prog 41 #[u, v] w fun e w' => e = .returned (.int .i64 (cmpN m n)) ∧ Below w.heap.size w w' := by
  obtain ⟨ga, ba, oa, ca, us, rA, cA, vA, lA, CA⟩ := trim_in hu
  obtain ⟨gb, bb, ob, cb, vs, rB, cB, vB, lB, CB⟩ := trim_in hv
  have CA := hide CA
  have CB := hide CB
  obtain ⟨la, hla⟩ : ∃ la, la = us.length := ⟨_, rfl⟩
  obtain ⟨lb, hlb⟩ : ∃ lb, lb = vs.length := ⟨_, rfl⟩
  rw [← hla] at CA lA
  rw [← hlb] at CB lB
  have HLA := hide hla
  have HLB := hide hlb
  subst vA vB
  obtain ⟨C, hC⟩ : ∃ C, C = cmpN (wval us) (wval vs) := ⟨_, rfl⟩
  rw [← hC]
  have HC := hide hC
  clear hu hv hla hlb hC
  go_enter Tryz.func41, Tryz.ntmps41
  go_wp2_with fail
  refine (unhide CA).mono ?_
  rintro e w1 ⟨rfl, rfl⟩
  go_wp2_with fail
  refine (unhide CB).mono ?_
  rintro e w2 ⟨rfl, rfl⟩
  clear CA CB
  by_cases h1 : la = lb
  · subst h1
    have q1 : ((la : Int) != (la : Int)) = false := by simp
    go_wp2
    go_loopw [5] (fun i wr => ∃ k : Nat, k ≤ la ∧ i = .int .i64 ((k : Int) - 1) ∧ Hid (us.drop k = vs.drop k) ∧ Below w2.heap.size w2 wr) (fun i _ => (intOf i + 1).toNat)
    case atStart => exact ⟨la, Nat.le_refl _, rfl, by show _ = _; rw [List.drop_eq_nil_of_le (by rw [← unhide HLA]; omega), List.drop_eq_nil_of_le (by rw [← unhide HLB]; omega)], Below.refl _ _⟩
    case round =>
      obtain ⟨k, hk, rfl, hD, hnx⟩ := hrel
      by_cases h0 : k = 0
      · subst h0
        have he : us = vs := by have := hD.out; simpa using this
        have E : Hid ((0 : Int) = C) := by show _ = _; rw [unhide HC, he, cmpN_eq rfl]
        clear he
        go_wp2
        go_ret
        exact ⟨ret_int (unhide E), hnx⟩
      · obtain ⟨j, rfl⟩ : ∃ j, k = j + 1 := ⟨k - 1, by omega⟩
        obtain rfl := rA.head (by rw [← unhide HLA]; omega)
        obtain rfl := rB.head (by rw [← unhide HLB]; omega)
        obtain ⟨x, hx⟩ : ∃ x : Nat, x = us.getD j 0 := ⟨_, rfl⟩
        obtain ⟨y, hy⟩ : ∃ y : Nat, y = vs.getD j 0 := ⟨_, rfl⟩
        have ej : ((j + 1 : Nat) : Int) - 1 = (j : Int) := by omega
        rw [ej]
        have cx : wr.cell? ⟨ba, oa + j, none⟩ = some (.int .u64 (x : Int)) := by rw [hx]; exact (hnx.cell (by exact rA.lt (by rw [← unhide HLA]; omega))).trans (rA.cell j (by rw [← unhide HLA]; omega))
        have cy : wr.cell? ⟨bb, ob + j, none⟩ = some (.int .u64 (y : Int)) := by rw [hy]; exact (hnx.cell (by exact rB.lt (by rw [← unhide HLB]; omega))).trans (rB.cell j (by rw [← unhide HLB]; omega))
        by_cases hxy : x = y
        · have H2 : Hid (us.drop j = vs.drop j) := drop_step j (by rw [← unhide HLA]; omega) (by rw [← unhide HLA, ← unhide HLB]) hD.out (by rw [← hx, ← hy]; exact hxy)
          subst hxy
          have s2 : ((x : Int) != (x : Int)) = false := by simp
          clear hx hy
          go_wp2
          go_quiet (fail)
          go_wp2
          exact ⟨⟨j, by omega, rfl, H2, below_drewN hnx _⟩, by simp [intOf]⟩
        · have hc : cmpN x y = cmpN (wval us) (wval vs) := cmpN_of (fun h => wDig_below cA.1 j hD.out (by rw [← hx, ← hy]; exact h)) (fun h => wDig_below cB.1 j hD.out.symm (by rw [← hx, ← hy]; exact h)) hxy
          have s2 : ((x : Int) != (y : Int)) = true := by rw [bne_iff_ne]; omega
          have CC := hide (fun w => compare_u64 x y w)
          have E : Hid (cmpN x y = C) := by show _ = _; rw [unhide HC, hc]
          generalize cmpN x y = cc at *
          clear hx hy hc hxy
          go_wp2
          go_quiet (fail)
          go_wp2
          go_quiet ((go_at_call 60; exact quiet_two (unhide CC _)))
          go_wp2
          go_ret
          exact ⟨ret_int (unhide E), below_drewN (below_drewN hnx _) _⟩
  · have hc : cmpN la lb = cmpN (wval us) (wval vs) := cmpN_of (fun h => wlen_lt cA.1 cB (by rw [← unhide HLA, ← unhide HLB]; exact h)) (fun h => wlen_lt cB.1 cA (by rw [← unhide HLA, ← unhide HLB]; exact h)) h1
    have q1 : ((la : Int) != (lb : Int)) = true := by rw [bne_iff_ne]; omega
    have CC := hide (fun w => compare_int la lb w)
    have E : Hid (cmpN la lb = C) := by show _ = _; rw [unhide HC, hc]
    generalize cmpN la lb = cc at *
    clear hc h1
    go_wp2_with fail
    refine (unhide CC _).mono ?_
    rintro e w3 ⟨rfl, rfl⟩
    go_wp2
    go_ret
    exact ⟨ret_int (unhide E), Below.refl _ _⟩

end Go.Proofs.YtpcfghnenhnlpaaGreatDoor

/- Zero, within, farthest and Join of limb: parts, each so many words higher than the one ahead, are summed. -/
namespace Go.Proofs.YtpcfghnenhnlpaaGreatDoor
open Go.RowKit

theorem wval_zero {us : List Nat} (h : WCan us) : us.length = 0 ↔ wval us = 0 := by
  constructor
  · intro e
    obtain rfl : us = [] := List.length_eq_zero_iff.1 e
    rfl
  · intro e
    have := wlen_le h (L := 0) (by rw [e]; decide)
    omega

/-- Len of a row that came in: as many words as its number has. -/
theorem len_in {w : World} {v : Value} {n : Nat} (h : InW w v n) : ∃ l, l ≤ 1073741824 ∧ (∀ us, WCan us → wval us = n → us.length = l) ∧ (l = 0 ↔ n = 0) ∧ Calls Tryz.prog 29 #[v] w fun e w' => e = .returned (.int .i64 (l : Int)) ∧ w' = w := by
  obtain ⟨ga, b, o, cap, xs, rfl, hr, hd, hv, hl⟩ := h
  have hc := nrm_wcan hd
  have hle := nlen_le xs xs.length
  refine ⟨nlen xs xs.length, by omega, fun us h1 h2 => ?_, ?_, len_any w ga b o cap _ xs rfl (by omega) hr⟩
  · rw [← nrm_length, wCan_unique h1 hc (by rw [nrm_wval, h2, hv])]
  · rw [← nrm_length, wval_zero hc, nrm_wval, hv]

set_option maxHeartbeats 400000 in
theorem zero_in {w : World} {v : Value} {n : Nat} (h : InW w v n) (b : Bool) (hb : b = decide (n = 0)) : Calls Tryz.prog 12 #[v] w fun e w' => e = .returned (.bool b) ∧ w' = w := by
  obtain ⟨l, h1, h2, h3, CL⟩ := len_in h
  have CL := hide CL
  have hq : ((l : Int) == 0) = b := by
    rw [hb]
    by_cases hn : n = 0
    · have : l = 0 := h3.2 hn
      subst this; simp [hn]
    · have : l ≠ 0 := fun e => hn (h3.1 e)
      simp [hn]; omega
  clear h h2 h3 hb
  go_enter Tryz.func12, Tryz.ntmps12
  go_wp2_with fail
  refine (unhide CL).mono ?_
  rintro e w' ⟨rfl, rfl⟩
  clear CL
  go_wp2
  go_ret
  exact ⟨rfl, rfl⟩

set_option maxHeartbeats 400000 in
theorem within_lim (z : Int) (most k : Nat) (w : World) (hk : (k : Int) = min (max z 0) (most : Int)) : Calls Tryz.prog 84 #[.int .i64 z, .int .i64 (most : Int)] w fun e w' => e = .returned (.int .i64 (k : Int)) ∧ w' = w := by
  have HK := hide hk
  clear hk
  go_enter Tryz.func84, Tryz.ntmps84
  go_wp2
  go_ret
  exact ⟨ret_int (unhide HK).symm, rfl⟩

/-- Parts: a row of rows in memory, each of which says a number. -/
structure Parts (w : World) (gp : Option Addr) (bp op : Nat) (vs : List Value) (ns : List Nat) : Prop where
  head : 0 < vs.length → gp = some ⟨bp, op, none⟩
  len : ns.length = vs.length
  cell : ∀ j, j < vs.length → w.cell? ⟨bp, op + j, none⟩ = some (vs.getD j undef)
  each : ∀ j, j < vs.length → InW w (vs.getD j undef) (ns.getD j 0)

theorem Parts.lt {w : World} {gp : Option Addr} {bp op : Nat} {vs : List Value} {ns : List Nat} (h : Parts w gp bp op vs ns) (h0 : 0 < vs.length) : bp < w.heap.size := World.block_lt_of_cell? _ _ (h.cell 0 h0)
theorem Parts.next {w w' : World} {gp : Option Addr} {bp op : Nat} {vs : List Value} {ns : List Nat} (h : Parts w gp bp op vs ns) (hb : Below w.heap.size w w') : Parts w' gp bp op vs ns :=
  ⟨h.head, h.len, fun j hj => (hb.cell (by exact h.lt (by omega))).trans (h.cell j hj), fun j hj => (h.each j hj).next hb⟩

/-- The sum of the first i parts, the j-th times B to the k j. -/
def jsum (k : Nat) (ns : List Nat) : Nat → Nat
  | 0 => 0
  | i + 1 => jsum k ns i + 18446744073709551616 ^ (k * i) * ns.getD i 0

/-- E is not nearer than the end of any part. -/
def Far (k : Nat) (ns : List Nat) (i E : Nat) : Prop := ∀ j, j < i → ns.getD j 0 ≠ 0 → ∀ us, WCan us → wval us = ns.getD j 0 → k * j + us.length ≤ E

theorem far_zero {k : Nat} {ns : List Nat} {i E : Nat} (h : Far k ns i E) (hz : ns.getD i 0 = 0) : Far k ns (i + 1) E := fun j hj hn us h1 h2 => by
  by_cases e : j = i
  · subst e; exact absurd hz hn
  · exact h j (by omega) hn us h1 h2
theorem far_more {k : Nat} {ns : List Nat} {i E l E' : Nat} (h : Far k ns i E) (hl : ∀ us, WCan us → wval us = ns.getD i 0 → us.length = l) (h1 : E ≤ E') (h2 : k * i + l ≤ E') : Far k ns (i + 1) E' := fun j hj hn us c1 c2 => by
  by_cases e : j = i
  · subst e; have := hl us c1 c2; omega
  · have := h j (by omega) hn us c1 c2; omega

theorem jsum_lt {k : Nat} {ns : List Nat} {i E : Nat} (hF : Far k ns i E) (hW : ∀ j, j < i → ∃ us, WCan us ∧ wval us = ns.getD j 0) : ∀ j, j ≤ i → jsum k ns j ≤ j * (18446744073709551616 ^ E - 1)
  | 0 => fun _ => by simp [jsum]
  | j + 1 => fun hj => by
    have ih := jsum_lt hF hW j (by omega)
    have ht : 18446744073709551616 ^ (k * j) * ns.getD j 0 ≤ 18446744073709551616 ^ E - 1 := by
      by_cases hn : ns.getD j 0 = 0
      · rw [hn]; simp
      · obtain ⟨us, h1, h2⟩ := hW j (by omega)
        have h3 := hF j (by omega) hn us h1 h2
        have h4 := wval_lt_pow h1.1
        rw [h2] at h4
        have h5 : 18446744073709551616 ^ (k * j) * (ns.getD j 0 + 1) ≤ 18446744073709551616 ^ (k * j) * 18446744073709551616 ^ us.length := Nat.mul_le_mul_left _ h4
        rw [← Nat.pow_add] at h5
        have h6 : 18446744073709551616 ^ (k * j + us.length) ≤ 18446744073709551616 ^ E := Nat.pow_le_pow_right (by omega) h3
        have h7 := wpow_pos (k * j)
        rw [Nat.mul_add, Nat.mul_one] at h5
        omega
    rw [jsum, Nat.add_mul, Nat.one_mul]
    omega
theorem jsum_room {k : Nat} {ns : List Nat} {i E : Nat} (hF : Far k ns i E) (hW : ∀ j, j < i → ∃ us, WCan us ∧ wval us = ns.getD j 0) (hi : i ≤ 65536) : ∀ j, j ≤ i → jsum k ns j < 18446744073709551616 ^ (E + 1) := fun j hj => by
  have h1 := jsum_lt hF hW j hj
  have h2 : j * (18446744073709551616 ^ E - 1) ≤ 65536 * (18446744073709551616 ^ E - 1) := Nat.mul_le_mul_right _ (by omega)
  have h3 := wpow_pos E
  rw [Nat.pow_succ]
  omega

theorem in_words {w : World} {v : Value} {n : Nat} (h : InW w v n) : ∃ us, WCan us ∧ wval us = n := by
  obtain ⟨ga, b, o, cap, xs, rfl, hr, hd, hv, hl⟩ := h
  exact ⟨nrm xs, nrm_wcan hd, by rw [nrm_wval]; exact hv⟩

set_option maxRecDepth 100000 in
set_option maxHeartbeats 3200000 in
theorem farthest_any (w : World) (gp : Option Addr) (bp op cp np k : Nat) (vs : List Value) (ns : List Nat) (hvl : vs.length = np) (hnp : np ≤ 65536) (hk : k ≤ 16384) (hP : Parts w gp bp op vs ns) :
    Calls Tryz.prog 114 #[.int .i64 (k : Int), .slice gp np cp] w fun e w' => ∃ E : Nat, e = .returned (.int .i64 (E : Int)) ∧ E ≤ 4294967296 ∧ Far k ns np E ∧ w' = w := by
  go_enter Tryz.func114, Tryz.ntmps114
  go_wp2
  go_loop [5, 10] (fun e i => ∃ (q E : Nat), q ≤ np ∧ e = .int .i64 (E : Int) ∧ i = .int .i64 (q : Int) ∧ E ≤ 4294967296 ∧ Hid (Far k ns q E)) (fun _ i => np - (intOf i).toNat)
  case atStart => exact ⟨0, 0, Nat.zero_le _, rfl, rfl, by omega, fun j hj => absurd hj (by omega)⟩
  case round =>
    obtain ⟨q, E, hq, rfl, rfl, hE, hF⟩ := hrel
    by_cases h1 : q < np
    · obtain rfl := hP.head (by omega)
      have cv := hP.cell q (by omega)
      have hin := hP.each q (by omega)
      obtain ⟨v, hv⟩ : ∃ v, v = vs.getD q undef := ⟨_, rfl⟩
      obtain ⟨n, hn⟩ : ∃ n, n = ns.getD q 0 := ⟨_, rfl⟩
      rw [← hv] at cv hin
      rw [← hn] at hin
      obtain ⟨l, hl, hl2, hl3, CL⟩ := len_in hin
      have CL := hide CL
      by_cases h0 : n = 0
      · have CZ := hide (zero_in hin true (by simp [h0]))
        have H2 := hide (far_zero hF.out (by rw [← hn]; exact h0))
        clear hv hn hin hl2 hl3 h0
        go_wp2_with fail
        refine (unhide CZ).mono ?_
        rintro e w' ⟨rfl, rfl⟩
        clear CZ CL
        go_wp2
        exact ⟨⟨q + 1, E, by omega, rfl, by go_num, hE, H2⟩, by simp [intOf]; omega⟩
      · have CZ := hide (zero_in hin false (by simp [h0]))
        obtain ⟨p, hp⟩ : ∃ p, p = k * q := ⟨_, rfl⟩
        have hpb : p ≤ 1073741824 := by rw [hp]; exact Nat.mul_le_mul (m₂ := 65536) hk (by omega)
        have hpi : (k : Int) * (q : Int) = (p : Int) := by rw [hp]; exact (Int.natCast_mul k q).symm
        have HP := hide hp
        have H2 := hide (far_more (E' := max E (p + l)) hF.out (by rw [← hn]; exact hl2) (by omega) (by omega))
        clear hv hn hin hl2 hl3 h0 hp
        go_wp2_with fail
        refine (unhide CZ).mono ?_
        rintro e w' ⟨rfl, rfl⟩
        clear CZ
        go_wp2_with fail
        refine (unhide CL).mono ?_
        rintro e w' ⟨rfl, rfl⟩
        clear CL
        go_wp2
        exact ⟨⟨q + 1, max E (p + l), by omega, congrArg (Value.int .i64) (by omega), by go_num, by omega, H2⟩, by simp [intOf]; omega⟩
    · obtain rfl : q = np := by omega
      go_wp2
      go_ret
      exact ⟨E, rfl, hE, hF.out, rfl⟩

end Go.Proofs.YtpcfghnenhnlpaaGreatDoor

/- Join and Sum of limb. -/
namespace Go.Proofs.YtpcfghnenhnlpaaGreatDoor
open Go.RowKit

/-- trim of a row that came in, in every world whose cells are the same. -/
theorem trim_all {w : World} {v : Value} {n : Nat} (h : InW w v n) : ∃ ga b o cap us, Rep w ga b o cap us ∧ WCan us ∧ wval us = n ∧ us.length ≤ 1073741824 ∧ ∀ W : World, (∀ a : Addr, a.block < w.heap.size → W.cell? a = w.cell? a) → Calls Tryz.prog 58 #[v] W fun e w' => e = .returned (.slice ga us.length cap) ∧ w' = W := by
  obtain ⟨ga, b, o, cap, xs, rfl, hr, hd, hv, hl⟩ := h
  have hle := nlen_le xs xs.length
  exact ⟨ga, b, o, cap, nrm xs, hr.take _ hle, nrm_wcan hd, by rw [nrm_wval]; exact hv, by rw [nrm_length]; omega, fun W hW => trim_any W ga b o cap _ _ xs rfl (by omega) ⟨hr.head, hr.room, fun j hj => by rw [hW _ (hr.lt (by omega))]; exact hr.cell j hj⟩ (nrm_length xs)⟩

set_option maxRecDepth 100000 in
set_option maxHeartbeats 3200000 in
theorem join_k (w : World) (gp : Option Addr) (bp op cp np k : Nat) (z : Int) (vs : List Value) (ns : List Nat) (hvl : vs.length = np) (hnp : np ≤ 65536) (hz : (k : Int) = min (max z 0) 16384) (hP : Parts w gp bp op vs ns) :
    Calls Tryz.prog 99 #[.int .i64 z, .slice gp np cp] w fun e w' => ∃ r, e = .returned r ∧ NewW w.heap.size w' r (jsum k ns np) ∧ Below w.heap.size w w' := by
  have hk : k ≤ 16384 := by omega
  have CW := hide (fun w => within_lim z 16384 k w hz)
  have CF := hide (farthest_any w gp bp op cp np k vs ns hvl hnp hk hP)
  clear hz
  go_enter Tryz.func99, Tryz.ntmps99
  go_wp2_with fail
  refine (unhide CW _).mono ?_
  rintro e w1 ⟨rfl, rfl⟩
  go_wp2_with fail
  refine (unhide CF).mono ?_
  rintro e w2 ⟨E, rfl, hE, hF, rfl⟩
  clear CW CF
  have hroom := jsum_room hF (fun j hj => in_words (hP.each j (by omega))) hnp
  obtain ⟨N, hN⟩ : ∃ N, N = E + 1 := ⟨_, rfl⟩
  rw [← hN] at hroom
  have HR := hide hroom
  have HF := hide hF
  have hmk := make_nat N N ((E : Int) + 1) (by omega) rfl (by omega)
  have hk0 : Blk (w2.alloc (.cells (zlist N).toArray 44)) w2.heap.size (List.replicate N 0) := heap_alloc_new w2 _
  have hb0 : Below w2.heap.size w2 (w2.alloc (.cells (zlist N).toArray 44)) := (Below.refl _ _).alloc (Nat.le_refl _) _
  have HK0 := hide hk0
  have HB0 := hide hb0
  have HN := hide hN
  have hNb : N ≤ 4294967297 := by omega
  clear hroom hF hk0 hb0 hN
  go_wp2
  clear hmk
  go_loopw [17] (fun i wr => ∃ (q : Nat) (zs : List Nat), q ≤ np ∧ i = .int .i64 (q : Int) ∧ zs.length = N ∧ WDig zs ∧ Blk wr w2.heap.size zs ∧ Hid (wval zs = jsum k ns q) ∧ Below w2.heap.size w2 wr)
    (fun i _ => np - (intOf i).toNat)
  case atStart => exact ⟨0, List.replicate N 0, Nat.zero_le _, rfl, by simp, (wzeros N).1, unhide HK0, (wzeros N).2, unhide HB0⟩
  case round =>
    obtain ⟨q, zs, hq, rfl, hzl, dz, hBlk, hV, hnx⟩ := hrel
    clear HK0 HB0
    have hsz := hnx.size
    by_cases h1 : q < np
    · obtain rfl := hP.head (by omega)
      have cv := (hnx.cell (by exact hP.lt (by omega))).trans (hP.cell q (by omega))
      have hin := (hP.each q (by omega)).next hnx
      obtain ⟨v, hv⟩ : ∃ v, v = vs.getD q undef := ⟨_, rfl⟩
      obtain ⟨n, hn⟩ : ∃ n, n = ns.getD q 0 := ⟨_, rfl⟩
      rw [← hv] at cv hin
      rw [← hn] at hin
      have hj : jsum k ns (q + 1) = jsum k ns q + 18446744073709551616 ^ (k * q) * n := by rw [hn]; rfl
      by_cases h0 : n = 0
      · have CZ := hide (zero_in hin true (by simp [h0]))
        have H2 : Hid (wval zs = jsum k ns (q + 1)) := by show _ = _; rw [hj, h0, Nat.mul_zero, Nat.add_zero]; exact hV.out
        clear hv hn hin h0 hj
        go_wp2_with fail
        refine (unhide CZ).mono ?_
        rintro e w' ⟨rfl, rfl⟩
        clear CZ
        go_wp2
        exact ⟨⟨q + 1, zs, by omega, by go_num, hzl, dz, hBlk, H2, hnx⟩, by simp [intOf]; omega⟩
      · have CZ := hide (zero_in hin false (by simp [h0]))
        have hin2 := hP.each q (by omega)
        rw [← hv, ← hn] at hin2
        obtain ⟨gb, bb, ob, cb, us, rB, cB, vB, lB, CT⟩ := trim_all hin2
        obtain ⟨p, hp⟩ : ∃ p, p = k * q := ⟨_, rfl⟩
        have hpi : (k : Int) * (q : Int) = (p : Int) := by rw [hp]; exact (Int.natCast_mul k q).symm
        have hfar := unhide HF q h1 (by rw [← hn]; exact h0) us cB (by rw [vB, hn])
        rw [← hp] at hfar hj
        obtain ⟨lb, hlb⟩ : ∃ lb, lb = us.length := ⟨_, rfl⟩
        rw [← hlb] at CT lB hfar
        have hpN : p + lb + 1 ≤ N := by rw [unhide HN]; omega
        obtain ⟨M, hM⟩ : ∃ M, N = p + M := ⟨N - p, by omega⟩
        have hrm : wval zs + 18446744073709551616 ^ p * wval us < 18446744073709551616 ^ (p + M) := by
          rw [← hM, vB, hV.out, ← hj]; exact unhide HR (q + 1) (by omega)
        have hne : 0 < us.length → bb ≠ w2.heap.size := fun h => by have := rB.lt h; omega
        have CT := hide (fun W (hW : Below w2.heap.size w2 W) => CT W (fun a ha => hW.cell ha))
        have CA := hide (fun W (hB : Blk W w2.heap.size zs) (hW : Below w2.heap.size w2 W) => addTo_any W w2.heap.size p M M bb ob cb lb gb zs us (by rw [hzl, hM]) hlb.symm (by omega) (by omega) hB dz (rB.next hW) cB.1 hne hrm)
        have H2 : Hid (wval zs + 18446744073709551616 ^ p * wval us = jsum k ns (q + 1)) := by show _ = _; rw [vB, hV.out, hj]
        generalize wval zs + 18446744073709551616 ^ p * wval us = S at *
        have HM := hide hM
        have hpM : p ≤ N := by omega
        have hMs : N - p = M := by omega
        have hNp : ¬ N = p := by omega
        have hwp : IntKind.i64.wrap (p : Int) = (p : Int) := by rw [IntKind.wrap_i64]; omega
        have hpi2 : 0 ≤ (p : Int) ∧ (p : Int) ≤ (N : Int) := by omega
        have HLZ := hide hzl
        clear hv hn hin hin2 h0 hj hp hfar hlb hrm hne rB cB vB hM hzl
        go_wp2_with fail
        refine (unhide CZ).mono ?_
        rintro e w' ⟨rfl, rfl⟩
        clear CZ
        go_wp2
        go_region_with (first
          | (go_at_call 58; refine (unhide CT _ ?_).mono ?_; exact hnx.drew; rintro e w' ⟨rfl, rfl⟩)
          | (go_at_call 73; refine (unhide CA _ ?_ ?_).mono ?_; exact hBlk; exact hnx.drew; rintro e w4 ⟨rfl, zs', hl4, hd4, k4, hv4, g4⟩))
        all_goals
          go_wp2
          exact ⟨⟨q + 1, zs', by omega, by go_num, by rw [hl4, unhide HM], hd4, k4, by rw [hv4]; exact H2, below_grown hnx.drew g4 (Nat.le_refl _) hsz⟩, by simp [intOf]; omega⟩
    · obtain rfl : q = np := by omega
      have HV := hV
      go_wp2_with fail
      refine (trim_blk (B := w2.heap.size) hzl (by omega) (Nat.le_refl _) hBlk dz).mono ?_
      rintro e w5 ⟨r, rfl, hr, rfl⟩
      rw [hV.out] at hr
      go_wp2
      go_ret
      exact ⟨r, rfl, hr, hnx⟩

end Go.Proofs.YtpcfghnenhnlpaaGreatDoor

/- The examples of the document on rows of words. -/
namespace Go.Proofs.YtpcfghnenhnlpaaGreatDoor
open Go.RowKit

theorem new_words {B : Nat} {w : World} {v : Value} {n : Nat} {ws : List Nat} (h : NewW B w v n) (hc : WCan ws) (hw : wval ws = n) : ∃ ga b cap, v = .slice ga ws.length cap ∧ Rep w ga b 0 cap ws := by
  obtain ⟨ga, b, cap, xs, rfl, hr, hx, hv, _⟩ := h.rep
  obtain rfl := wCan_unique hx hc (by rw [hv, hw])
  exact ⟨ga, b, cap, rfl, hr⟩

end Go.Proofs.YtpcfghnenhnlpaaGreatDoor

/- What the laws of limb share: rows that are spoilt, 'from'. -/
namespace Go.Proofs.YtpcfghnenhnlpaaGreatDoor
open Go.RowKit

/-- A natural as limb answers it, in a block from B on, below M. -/
def NewB (B M : Nat) (w : World) (v : Value) (n : Nat) : Prop :=
  ∃ xs, WCan xs ∧ wval xs = n ∧ ((v = .slice none 0 0 ∧ xs = []) ∨ ∃ g ys, B ≤ g ∧ g < M ∧ v = .slice (some ⟨g, 0, none⟩) xs.length (xs ++ ys).length ∧ Blk w g (xs ++ ys) ∧ xs.length + ys.length ≤ 1099511627776)
theorem NewW.born {B : Nat} {w : World} {v : Value} {n : Nat} (h : NewW B w v n) : NewB B w.heap.size w v n := by
  obtain ⟨xs, hc, hv, h | ⟨g, ys, hg, rfl, hk, hl⟩⟩ := h
  · exact ⟨xs, hc, hv, Or.inl h⟩
  · exact ⟨xs, hc, hv, Or.inr ⟨g, ys, hg, hk.lt, rfl, hk, hl⟩⟩
theorem NewB.toW {B M : Nat} {w : World} {v : Value} {n : Nat} (h : NewB B M w v n) : NewW B w v n := by
  obtain ⟨xs, hc, hv, h | ⟨g, ys, hg, _, rfl, hk, hl⟩⟩ := h
  · exact ⟨xs, hc, hv, Or.inl h⟩
  · exact ⟨xs, hc, hv, Or.inr ⟨g, ys, hg, rfl, hk, hl⟩⟩
theorem NewB.next {B M : Nat} {w w' : World} {v : Value} {n : Nat} (h : NewB B M w v n) (hb : Below w.heap.size w w') : NewB B M w' v n := by
  obtain ⟨xs, hc, hv, h | ⟨g, ys, hg, hm, rfl, hk, hl⟩⟩ := h
  · exact ⟨xs, hc, hv, Or.inl h⟩
  · exact ⟨xs, hc, hv, Or.inr ⟨g, ys, hg, hm, rfl, hk.next hb, hl⟩⟩
theorem newB_nil (B M : Nat) (w : World) : NewB B M w (.slice none 0 0) 0 := ⟨[], wCan_nil, rfl, Or.inl ⟨rfl, rfl⟩⟩

/-- At most a block from B on, below M, is turned. -/
def Spoilt (B M : Nat) (w w' : World) : Prop := w' = w ∨ ∃ g, B ≤ g ∧ g < M ∧ w.grownBy w' (some g)
theorem Rep.spoilt {B M : Nat} {w w' : World} {ga : Option Addr} {b o cap : Nat} {xs : List Nat} (h : Rep w ga b o cap xs) (hs : Spoilt B M w w') (hb : 0 < xs.length → b < B ∨ M ≤ b) : Rep w' ga b o cap xs := by
  rcases hs with rfl | ⟨g, h1, h2, hg⟩
  · exact h
  · exact h.but hg (fun h0 => by have := hb h0; omega)
theorem NewB.spoilt {B M B' M' : Nat} {w w' : World} {v : Value} {n : Nat} (h : NewB B' M' w v n) (hs : Spoilt B M w w') (hd : M ≤ B' ∨ M' ≤ B) : NewB B' M' w' v n := by
  rcases hs with rfl | ⟨g, h1, h2, hg⟩
  · exact h
  · obtain ⟨xs, hc, hv, h | ⟨k, ys, hk1, hk2, rfl, hk, hl⟩⟩ := h
    · exact ⟨xs, hc, hv, Or.inl h⟩
    · exact ⟨xs, hc, hv, Or.inr ⟨k, ys, hk1, hk2, rfl, hk.but hg (by omega), hl⟩⟩
theorem below_spoilt {B M C : Nat} {w0 w w' : World} (h : Below C w0 w) (hs : Spoilt B M w w') (hC : C ≤ B) (hw : C ≤ w.heap.size) : Below C w0 w' := by
  rcases hs with rfl | ⟨g, h1, h2, hg⟩
  · exact h
  · exact below_grown h hg (by omega) hw
theorem spoil_any (w : World) (v : Value) (n B M : Nat) (h : NewB B M w v n) : Calls Tryz.prog 18 #[v] w fun e w' => e = .returned (.tuple #[]) ∧ Spoilt B M w w' := by
  obtain ⟨xs, hc, hv, ⟨rfl, rfl⟩ | ⟨g, ys, hg, hm, rfl, hk, hl⟩⟩ := h
  · refine (spoil_nil w).mono ?_
    rintro e w' ⟨rfl, rfl⟩
    exact ⟨rfl, Or.inl rfl⟩
  · refine (spoil_blk w g _ _ _ rfl (by simp) (by simpa using hl) hk).mono ?_
    rintro e w' ⟨rfl, hG⟩
    exact ⟨rfl, Or.inr ⟨g, hg, hm, hG⟩⟩

end Go.Proofs.YtpcfghnenhnlpaaGreatDoor

/- Rows of rows: Cuts and Nats of keep; Sum of the reference; Sum of limb. -/
namespace Go.Proofs.YtpcfghnenhnlpaaGreatDoor
open Go.RowKit

/-- A row of at most K words that says n. -/
def InL (K : Nat) (w : World) (v : Value) (n : Nat) : Prop := ∃ ga b o cap xs, v = .slice ga xs.length cap ∧ Rep w ga b o cap xs ∧ WDig xs ∧ wval xs = n ∧ xs.length ≤ K
theorem InL.toIn {K : Nat} {w : World} {v : Value} {n : Nat} (h : InL K w v n) (hK : K ≤ 1073741824) : InW w v n := by
  obtain ⟨ga, b, o, cap, xs, rfl, hr, hd, hv, hl⟩ := h
  exact ⟨ga, b, o, cap, xs, rfl, hr, hd, hv, by omega⟩
theorem InL.next {K : Nat} {w w' : World} {v : Value} {n : Nat} (h : InL K w v n) (hb : Below w.heap.size w w') : InL K w' v n := by
  obtain ⟨ga, b, o, cap, xs, rfl, hr, hd, hv, hl⟩ := h
  exact ⟨ga, b, o, cap, xs, rfl, hr.next hb, hd, hv, hl⟩
theorem InL.lt {K : Nat} {w : World} {v : Value} {n : Nat} (h : InL K w v n) : n < 18446744073709551616 ^ K := by
  obtain ⟨ga, b, o, cap, xs, rfl, hr, hd, hv, hl⟩ := h
  rw [← hv]; exact pow_up (wval_lt_pow hd) hl

/-- Rows in memory, as they come in: vs their headers, each leads to words. -/
structure RowsIn (w : World) (gp : Option Addr) (bp op : Nat) (vs : List Value) : Prop where
  head : 0 < vs.length → gp = some ⟨bp, op, none⟩
  cell : ∀ j, j < vs.length → w.cell? ⟨bp, op + j, none⟩ = some (vs.getD j undef)
  each : ∀ j, j < vs.length → ∃ ga b o cap xs, vs.getD j undef = .slice ga xs.length cap ∧ Rep w ga b o cap xs ∧ WDig xs
/-- Rows in memory, each of at most K words, which says a number. -/
structure RowsN (K : Nat) (w : World) (gp : Option Addr) (bp op : Nat) (vs : List Value) (ns : List Nat) : Prop where
  head : 0 < vs.length → gp = some ⟨bp, op, none⟩
  len : ns.length = vs.length
  cell : ∀ j, j < vs.length → w.cell? ⟨bp, op + j, none⟩ = some (vs.getD j undef)
  each : ∀ j, j < vs.length → InL K w (vs.getD j undef) (ns.getD j 0)
theorem RowsN.lt {K : Nat} {w : World} {gp : Option Addr} {bp op : Nat} {vs : List Value} {ns : List Nat} (h : RowsN K w gp bp op vs ns) (h0 : 0 < vs.length) : bp < w.heap.size := World.block_lt_of_cell? _ _ (h.cell 0 h0)
theorem RowsN.next {K : Nat} {w w' : World} {gp : Option Addr} {bp op : Nat} {vs : List Value} {ns : List Nat} (h : RowsN K w gp bp op vs ns) (hb : Below w.heap.size w w') : RowsN K w' gp bp op vs ns :=
  ⟨h.head, h.len, fun j hj => (hb.cell (by exact h.lt (by omega))).trans (h.cell j hj), fun j hj => (h.each j hj).next hb⟩
theorem RowsN.parts {K : Nat} {w : World} {gp : Option Addr} {bp op : Nat} {vs : List Value} {ns : List Nat} (h : RowsN K w gp bp op vs ns) (hK : K ≤ 1073741824) : Parts w gp bp op vs ns :=
  ⟨h.head, h.len, h.cell, fun j hj => (h.each j hj).toIn hK⟩

theorem Tryz.infoNt : (Tryz.prog.info? 30).map (fun i => (i.zero, i.size, i.bytes)) = some (some (.slice none 0 0), 1, 24) := by kernel_rfl
theorem info_of {o : Option TypeInfo} {z : Option Value} {n b : Nat} (h : o.map (fun i => (i.zero, i.size, i.bytes)) = some (z, n, b)) : ∃ i, o = some i ∧ i.zero = z ∧ i.size = n ∧ i.bytes = b := by
  cases o with
  | none => simp at h
  | some i => simp at h; exact ⟨i, rfl, h.1, h.2.1, h.2.2⟩

/-- A row of headers of the call's own. -/
theorem owns_vals {w : World} {base t n : Nat} {v : Value} {us : List Value} (h : w.ownsRow base t 1 v n us) : ∃ ga b cap, v = .slice ga n cap ∧ us.length = n ∧ (0 < n → ga = some ⟨b, 0, none⟩ ∧ base ≤ b) ∧ ∀ j, j < n → w.cell? ⟨b, 0 + j, none⟩ = some (us.getD j undef) := by
  have hl : us.length = n := by simpa using h.1
  rcases h.2 with ⟨rfl, rfl⟩ | ⟨g, cap, cur, rfl, hb, hg, hc, hm, hs, ht⟩
  · exact ⟨none, 0, 0, rfl, hl, fun h => absurd h (by omega), fun j hj => absurd hj (by omega)⟩
  · have ho : w.ownsRow base t 1 (.slice (some ⟨g, 0, none⟩) n cap) n us := ⟨h.1, Or.inr ⟨g, cap, cur, rfl, hb, hg, hc, hm, hs, ht⟩⟩
    refine ⟨_, g, cap, rfl, hl, fun _ => ⟨rfl, hb⟩, fun j hj => ?_⟩
    rw [Nat.zero_add, ho.cellAt j (by omega)]
    simp [List.getD_eq_getElem?_getD, show j < us.length from by omega]
theorem getD_snoc_v (us : List Value) (u : Value) (j : Nat) : (us ++ [u]).getD j undef = if j < us.length then us.getD j undef else if j = us.length then u else undef := by
  simp only [List.getD_eq_getElem?_getD, List.getElem?_append]
  split
  · rfl
  · rename_i h
    by_cases e : j = us.length
    · subst e; simp
    · rw [if_neg e]
      have : j - us.length ≠ 0 := by omega
      obtain ⟨k, hk⟩ : ∃ k, j - us.length = k + 1 := ⟨j - us.length - 1, by omega⟩
      rw [hk]; simp
theorem getD_snoc_n (ns : List Nat) (n j : Nat) : (ns ++ [n]).getD j 0 = if j < ns.length then ns.getD j 0 else if j = ns.length then n else 0 := by
  rw [getD_append]
  split
  · rfl
  · by_cases e : j = ns.length
    · subst e; simp
    · rw [if_neg e]
      obtain ⟨k, hk⟩ : ∃ k, j - ns.length = k + 1 := ⟨j - ns.length - 1, by omega⟩
      rw [hk]; simp

/-- Headers, each of which says a number, in whatever world has the same cells. -/
def Says (K : Nat) (w : World) (us : List Value) (ns : List Nat) : Prop := ns.length = us.length ∧ ∀ j, j < us.length → InL K w (us.getD j undef) (ns.getD j 0)
theorem Says.next {K : Nat} {w w' : World} {us : List Value} {ns : List Nat} (h : Says K w us ns) (hb : Below w.heap.size w w') : Says K w' us ns := ⟨h.1, fun j hj => (h.2 j hj).next hb⟩

theorem jsum_zero_succ (ns : List Nat) (i : Nat) : jsum 0 ns (i + 1) = jsum 0 ns i + ns.getD i 0 := by
  rw [jsum, Nat.zero_mul, Nat.pow_zero, Nat.one_mul]
set_option maxHeartbeats 800000 in
theorem sum_w (w : World) (gp : Option Addr) (bp op cp np : Nat) (vs : List Value) (ns : List Nat) (hvl : vs.length = np) (hnp : np ≤ 65536) (hP : Parts w gp bp op vs ns) :
    Calls Tryz.prog 132 #[.slice gp np cp] w fun e w' => ∃ r, e = .returned r ∧ NewW w.heap.size w' r (jsum 0 ns np) ∧ Below w.heap.size w w' := by
  have C := hide (join_k w gp bp op cp np 0 0 vs ns hvl hnp (by decide) hP)
  clear hP hvl
  go_enter Tryz.func132, Tryz.ntmps132
  go_wp2_with fail
  refine (unhide C).mono ?_
  rintro e w1 ⟨r, rfl, hr, hb⟩
  go_wp2
  go_ret
  exact ⟨r, rfl, hr, hb⟩

end Go.Proofs.YtpcfghnenhnlpaaGreatDoor

/- Parts that were just laid, joined and summed. -/
namespace Go.Proofs.YtpcfghnenhnlpaaGreatDoor
open Go.RowKit

theorem parts_three (w : World) (u v x : Value) (m n p t : Nat) (hu : InW w u m) (hv : InW w v n) (hx : InW w x p) : Parts (w.alloc (.cells #[u, v, x] t)) (some ⟨w.heap.size, 0, none⟩) w.heap.size 0 [u, v, x] [m, n, p] := by
  have hb : Below w.heap.size w (w.alloc (.cells #[u, v, x] t)) := (Below.refl _ _).alloc (Nat.le_refl _) _
  refine ⟨fun _ => rfl, rfl, fun j hj => ?_, fun j hj => ?_⟩
  · have hj2 : j < 3 := hj
    rw [Nat.zero_add, cell_of_row _ w.heap.size j #[u, v, x] t (0, 0) (heap_alloc_new w _)]
    match j, hj2 with
    | 0, _ => rfl
    | 1, _ => rfl
    | 2, _ => rfl
  · have hj2 : j < 3 := hj
    match j, hj2 with
    | 0, _ => exact hu.next hb
    | 1, _ => exact hv.next hb
    | 2, _ => exact hx.next hb

theorem sum_three (w : World) (u v x : Value) (m n p : Nat) (hu : InW w u m) (hv : InW w v n) (hx : InW w x p) :
    Calls Tryz.prog 132 #[.slice (some ⟨w.heap.size, 0, none⟩) 3 3] (w.alloc (.cells #[u, v, x] 30)) fun e w' => ∃ r, e = .returned r ∧ NewW w.heap.size w' r (m + n + p) ∧ Below w.heap.size w w' := by
  have hb : Below w.heap.size w (w.alloc (.cells #[u, v, x] 30)) := (Below.refl _ _).alloc (Nat.le_refl _) _
  refine (sum_w _ _ _ _ 3 3 _ _ rfl (by omega) (parts_three w u v x m n p 30 hu hv hx)).mono ?_
  rintro e w' ⟨r, rfl, hr, h⟩
  have e3 : jsum 0 [m, n, p] 3 = m + n + p := by
    rw [jsum_zero_succ, jsum_zero_succ, jsum_zero_succ]; simp [jsum]
  rw [e3] at hr
  exact ⟨r, rfl, hr.mono hb.size, bstep hb h⟩

end Go.Proofs.YtpcfghnenhnlpaaGreatDoor

/- Bits of api's Nat. -/
namespace Go.Proofs.YtpcfghnenhnlpaaGreatDoor
open Go.RowKit

/-- L is how many binary digits n has. -/
def HasBits (n L : Nat) : Prop := (n = 0 ∧ L = 0) ∨ (0 < n ∧ 1 ≤ L ∧ 2 ^ (L - 1) ≤ n ∧ n < 2 ^ L)
theorem hasBits_unique {n L M : Nat} (h : HasBits n L) (k : HasBits n M) : L = M := by
  rcases h with ⟨h1, h2⟩ | ⟨h1, h2, h3, h4⟩ <;> rcases k with ⟨k1, k2⟩ | ⟨k1, k2, k3, k4⟩ <;> try omega
  have a : L - 1 < M := (Nat.pow_lt_pow_iff_right (a := 2) (by omega)).1 (by omega)
  have b : M - 1 < L := (Nat.pow_lt_pow_iff_right (a := 2) (by omega)).1 (by omega)
  omega
theorem bitLen_has : ∀ f x, f ≤ 64 → x < 2 ^ f → HasBits x (Lib.bitLen x)
  | 0, x, _, h => by
    obtain rfl : x = 0 := by simpa using h
    exact Or.inl ⟨rfl, by decide⟩
  | f + 1, x, hf, h => by
    by_cases h0 : x = 0
    · subst h0; exact Or.inl ⟨rfl, by decide⟩
    · have hx64 : x < 2 ^ 64 := Nat.lt_of_lt_of_le h (Nat.pow_le_pow_right (by omega) hf)
      have ih := bitLen_has f (x / 2) (by omega) (by rw [Nat.pow_succ] at h; omega)
      rw [Lib.bitLen_half x h0 hx64]
      rcases ih with ⟨i1, i2⟩ | ⟨i1, i2, i3, i4⟩
      · rw [i2]; exact Or.inr ⟨by omega, by omega, by simp; omega, by omega⟩
      · generalize Lib.bitLen (x / 2) = L at *
        refine Or.inr ⟨by omega, by omega, ?_, ?_⟩
        · obtain ⟨l, rfl⟩ : ∃ l, L = l + 1 := ⟨L - 1, by omega⟩
          rw [show 1 + (l + 1) - 1 = l + 1 from by omega, Nat.pow_succ]
          rw [Nat.add_sub_cancel] at i3
          omega
        · rw [Nat.add_comm, Nat.pow_succ]; omega

/-- A top word and the words below it. -/
theorem hasBits_top {lo x L k : Nat} (hlo : lo < 18446744073709551616 ^ k) (hx : 0 < x) (h : HasBits x L) : HasBits (lo + 18446744073709551616 ^ k * x) (64 * k + L) := by
  rcases h with ⟨h1, _⟩ | ⟨_, h2, h3, h4⟩
  · omega
  · have e : 18446744073709551616 ^ k = 2 ^ (64 * k) := by rw [Nat.pow_mul]
    have hp := wpow_pos k
    have hm : 18446744073709551616 ^ k * 1 ≤ 18446744073709551616 ^ k * x := Nat.mul_le_mul_left _ hx
    refine Or.inr ⟨by omega, by omega, ?_, ?_⟩
    · rw [show 64 * k + L - 1 = 64 * k + (L - 1) from by omega, Nat.pow_add, ← e]
      have := Nat.mul_le_mul_left (18446744073709551616 ^ k) h3
      omega
    · rw [Nat.pow_add, ← e]
      have := Nat.mul_le_mul_left (18446744073709551616 ^ k) (show x + 1 ≤ 2 ^ L from h4)
      rw [Nat.mul_add, Nat.mul_one] at this
      omega

set_option maxRecDepth 100000 in
set_option maxHeartbeats 1600000 in
theorem natBits_in {w : World} {v : Value} {n : Nat} (h : InW w v n) : ∃ L, L ≤ 68719476736 ∧ HasBits n L ∧ Calls Tryz.prog 34 #[v] w fun e w' => e = .returned (.int .i64 (L : Int)) ∧ w' = w := by
  obtain ⟨ga, b, o, cap, xs, rfl, hr, hd, hv, hl⟩ := h
  obtain ⟨la, hla⟩ : ∃ la, la = xs.length := ⟨_, rfl⟩
  have CL := hide (len_any w ga b o cap la xs hla.symm (by omega) hr)
  rw [← hla] at hl ⊢
  have hv2 := nlen_wval xs la
  have htop := nlen_top xs la
  have hle := nlen_le xs la
  rw [hla, List.take_length, ← hla, hv] at hv2
  obtain ⟨l, hle2⟩ : ∃ l, l = nlen xs la := ⟨_, rfl⟩
  rw [← hle2] at CL hv2 htop hle
  by_cases h0 : l = 0
  · subst h0
    refine ⟨0, by omega, Or.inl ⟨by rw [← hv2]; rfl, rfl⟩, ?_⟩
    clear htop hv2 hv hd hla hle2
    go_enter Tryz.func34, Tryz.ntmps34
    go_wp2_with fail
    refine (unhide CL).mono ?_
    rintro e w1 ⟨rfl, rfl⟩
    clear CL
    go_wp2
    go_ret
    exact ⟨rfl, rfl⟩
  · obtain ⟨k, rfl⟩ : ∃ k, l = k + 1 := ⟨l - 1, by omega⟩
    have htop := htop (by omega)
    rw [Nat.add_sub_cancel] at htop
    obtain ⟨x, hx⟩ : ∃ x, x = xs.getD k 0 := ⟨_, rfl⟩
    have hx64 : x < 18446744073709551616 := by rw [hx]; exact hd k
    rw [wval_take_succ, ← hx] at hv2
    rw [← hx] at htop
    have hB := bitLen_has 64 x (by omega) hx64
    have CB := hide (fun w => len64_any (x : Int) w (by omega) (by omega))
    rw [Int.toNat_natCast] at CB
    have hLb : Lib.bitLen x ≤ 64 := by
      rcases hB with ⟨_, h2⟩ | ⟨_, h2, h3, _⟩
      · omega
      · have : Lib.bitLen x - 1 < 64 := (Nat.pow_lt_pow_iff_right (a := 2) (by omega)).1 (by omega)
        omega
    generalize Lib.bitLen x = L at *
    have hH := hasBits_top (wval_lt hd k) htop hB
    rw [hv2] at hH
    refine ⟨64 * k + L, by omega, hH, ?_⟩
    obtain rfl := hr.head (by omega)
    have cx : w.cell? ⟨b, o + k, none⟩ = some (.int .u64 (x : Int)) := by rw [hx]; exact hr.cell k (by omega)
    have hnz : (((k + 1 : Nat) : Int) == 0) = false := by rw [beq_eq_false_iff_ne]; omega
    have ek : ((k + 1 : Nat) : Int) - 1 = (k : Int) := by omega
    have eL : (64 : Int) * (k : Int) + (L : Int) = ((64 * k + L : Nat) : Int) := by omega
    have HEL := hide eL
    clear htop hv2 hv hd hx hB hH eL hla hle2
    go_enter Tryz.func34, Tryz.ntmps34
    go_wp2_with fail
    refine (unhide CL).mono ?_
    rintro e w1 ⟨rfl, rfl⟩
    clear CL
    go_wp2_with fail
    refine (unhide CB _).mono ?_
    rintro e w2 ⟨rfl, rfl⟩
    clear CB
    go_wp2
    go_ret
    exact ⟨ret_int (unhide HEL), rfl⟩

end Go.Proofs.YtpcfghnenhnlpaaGreatDoor

/- Newton's steps in plain numbers: how near a guess is to a reciprocal, how many words it has, what it costs. -/
namespace Go.Proofs.YtpcfghnenhnlpaaGreatDoor
/-- X is less than t quarters off 2 to the k + b over D. -/
def NearQ (t D b k X : Nat) : Prop := 4 * (X * D) < 4 * 2 ^ (k + b) + t * D ∧ 4 * 2 ^ (k + b) < 4 * (X * D) + t * D

theorem near_base {D b k : Nat} (hD : 0 < D) : NearQ 7 D b k (2 ^ (k + b) / D) := by
  have h1 := Nat.div_mul_le_self (2 ^ (k + b)) D
  have h2 := Nat.lt_div_mul_add hD (a := 2 ^ (k + b))
  unfold NearQ
  generalize 2 ^ (k + b) / D * D = Z at *
  generalize 2 ^ (k + b) = P at *
  constructor <;> omega

theorem near_more {t u D b k X : Nat} (h : NearQ t D b k X) (hu : t ≤ u) : NearQ u D b k X := by
  have := Nat.mul_le_mul_right D hu
  unfold NearQ at *
  omega

/-- How great a guess is. -/
theorem near_lt {D b k X : Nat} (hD : 2 ^ b ≤ D) (h : NearQ 8 D (b + 1) k X) : X < 2 * 2 ^ k + 2 := by
  obtain ⟨h1, _⟩ := h
  rw [show 2 ^ (k + (b + 1)) = 2 * 2 ^ k * 2 ^ b by rw [← Nat.add_assoc, Nat.pow_succ, Nat.pow_add]; grind] at h1
  refine Nat.lt_of_mul_lt_mul_right (a := 4 * D) ?_
  have : 4 * (2 * 2 ^ k * 2 ^ b) ≤ 4 * (2 * 2 ^ k * D) := Nat.mul_le_mul_left _ (Nat.mul_le_mul_left _ hD)
  grind

/-- A divisor whose lower digits were left out. -/
theorem near_cut {D D' b' c k r X : Nat} (hD : D = D' * 2 ^ c + r) (hr : r < 2 ^ c) (hb : b' = k + 4) (h0 : 2 ^ (k + 3) ≤ D') (h : NearQ 7 D' b' k X) : NearQ 8 D (b' + c) k X := by
  have hX := near_lt (b := k + 3) h0 (near_more (u := 8) (by rw [hb] at h; exact h) (by omega))
  obtain ⟨h1, h2⟩ := h
  have hk : 2 ^ (k + 3) = 8 * 2 ^ k := by rw [Nat.pow_add]; omega
  have hp : 2 ^ (k + (b' + c)) = 2 ^ (k + b') * 2 ^ c := by rw [← Nat.add_assoc, Nat.pow_add]
  unfold NearQ
  rw [hp, hD]
  generalize 2 ^ (k + b') = P at *
  rw [hk] at h0
  generalize 2 ^ k = K at *
  generalize 2 ^ c = C at *
  clear hp hk hD hb
  have a1 : 4 * X * r ≤ (8 * K + 4) * r := Nat.mul_le_mul_right r (by omega)
  have a2 : 8 * K * r ≤ D' * C := Nat.mul_le_mul h0 (by omega)
  have a3 : (4 * (X * D')) * C ≤ (4 * P + 7 * D') * C := Nat.mul_le_mul_right C (by omega)
  have a4 : (4 * P + 1) * C ≤ (4 * (X * D') + 7 * D') * C := Nat.mul_le_mul_right C (by omega)
  have h0C : 0 < C := by omega
  constructor
  · by_cases hr0 : r = 0
    · subst hr0
      have a5 : (4 * (X * D') + 1) * C ≤ (4 * P + 7 * D') * C := Nat.mul_le_mul_right C (by omega)
      grind
    · grind
  · grind

theorem step_up {y D R P S F G K ch x : Nat} (hD : 0 < D) (hF : 0 < F) (SF : S * F = P) (KF : K * F = P * P) (c1 : F * ch ≤ y * R) (c2 : y * R < F * ch + F + y * G)
    (hR : R < 2 * D) (h1 : 128 * D ≤ F) (h2 : 4 * (y * G) ≤ F) (hP : P = y * D + R) (hx : x = y * S + ch) : 4 * (x * D) < 4 * K + 7 * D ∧ 4 * K < 4 * (x * D) + 7 * D := by
  have e1 : F * (x * D) = y * D * P + F * ch * D := by subst hx; grind
  have a1 : F * ch * D ≤ y * R * D := Nat.mul_le_mul_right D c1
  have a2 : (y * R + 1) * D ≤ (F * ch + F + y * G) * D := Nat.mul_le_mul_right D c2
  have a3 : 4 * (y * G) * D ≤ F * D := Nat.mul_le_mul_right D h2
  have a4 : 128 * D * D ≤ F * D := Nat.mul_le_mul_right D h1
  have a5 : R * R ≤ 2 * D * (2 * D) := Nat.mul_le_mul (by omega) (by omega)
  have a6 : 0 < F * D := Nat.mul_pos hF hD
  constructor
  · refine Nat.lt_of_mul_lt_mul_left (a := F) ?_
    subst hP
    grind
  · refine Nat.lt_of_mul_lt_mul_left (a := F) ?_
    subst hP
    grind
theorem step_down {y D R P S F G K ch x : Nat} (hD : 0 < D) (hF : 0 < F) (SF : S * F = P) (KF : K * F = P * P) (c1 : F * ch ≤ y * R) (c2 : y * R < F * ch + F + y * G)
    (hR : R < 2 * D) (h1 : 128 * D ≤ F) (h2 : 4 * (y * G) ≤ F) (hP : P + R = y * D) (hx : x + ch = y * S) : 4 * (x * D) < 4 * K + 7 * D ∧ 4 * K < 4 * (x * D) + 7 * D := by
  have e1 : F * (x * D) + F * ch * D = y * D * P := by
    rw [← SF, show F * (x * D) + F * ch * D = (x + ch) * (F * D) by grind, hx]
    grind
  have a1 : F * ch * D ≤ y * R * D := Nat.mul_le_mul_right D c1
  have a2 : (y * R + 1) * D ≤ (F * ch + F + y * G) * D := Nat.mul_le_mul_right D c2
  have a3 : 4 * (y * G) * D ≤ F * D := Nat.mul_le_mul_right D h2
  have a4 : 128 * D * D ≤ F * D := Nat.mul_le_mul_right D h1
  have a5 : R * R ≤ 2 * D * (2 * D) := Nat.mul_le_mul (by omega) (by omega)
  have a6 : 0 < F * D := Nat.mul_pos hF hD
  have e2 : y * R * D = (P + R) * R := by rw [hP]; grind
  have e3 : y * D * P = (P + R) * P := by rw [hP]
  constructor
  · refine Nat.lt_of_mul_lt_mul_left (a := F) ?_
    grind
  · refine Nat.lt_of_mul_lt_mul_left (a := F) ?_
    grind

/-- What is cut off twice. -/
theorem cut_le {y R G H F ch : Nat} (hF : F = G * H) (hc : ch = y * (R / G) / H) : F * ch ≤ y * R := by
  have h1 := Nat.div_mul_le_self (y * (R / G)) H
  have h2 := Nat.mul_le_mul_left y (Nat.div_mul_le_self R G)
  rw [← hc] at h1
  have h3 := Nat.mul_le_mul_right G h1
  generalize R / G = q at *
  clear hc
  subst hF
  grind
theorem cut_gt {y R G H F ch g : Nat} (hG : G = g + 1) (hH : 0 < H) (hF : F = G * H) (hc : ch = y * (R / G) / H) : y * R < F * ch + F + y * g := by
  have h1 := Nat.lt_div_mul_add hH (a := y * (R / G))
  have h2 := Nat.lt_div_mul_add (b := G) (by omega) (a := R)
  rw [← hc] at h1
  have h3 : y * R ≤ y * (R / G * G + g) := Nat.mul_le_mul_left y (by omega)
  have h4 : (y * (R / G) + 1) * G ≤ (ch * H + H) * G := Nat.mul_le_mul_right G h1
  generalize R / G = q at *
  clear hc h2 h1 hH
  subst hF hG
  grind

/-- Newton's step. -/
theorem near_step {D b k h cut R y x : Nat} (b0 : 2 ^ b ≤ D) (b1 : D < 2 ^ (b + 1)) (hk : 60 < k) (hh : h = k / 2 + 4) (hcut : cut = h + (b + 1) - k - 4) (N : NearQ 8 D (b + 1) h y)
    (hx : (2 ^ (h + (b + 1)) = y * D + R ∧ x = y * 2 ^ (k - h) + y * (R / 2 ^ cut) / 2 ^ (2 * h + (b + 1) - k - cut)) ∨ (2 ^ (h + (b + 1)) + R = y * D ∧ x + y * (R / 2 ^ cut) / 2 ^ (2 * h + (b + 1) - k - cut) = y * 2 ^ (k - h))) : NearQ 7 D (b + 1) k x := by
  have hy := near_lt b0 N
  have hR : R < 2 * D := by obtain ⟨n1, n2⟩ := N; rcases hx with ⟨e, _⟩ | ⟨e, _⟩ <;> omega
  obtain ⟨E, hE⟩ : ∃ E, E = 2 * h + (b + 1) - k := ⟨_, rfl⟩
  obtain ⟨e2, he2⟩ : ∃ e2, e2 = 2 * h + (b + 1) - k - cut := ⟨_, rfl⟩
  rw [← he2] at hx
  have hF : 2 ^ E = 2 ^ cut * 2 ^ e2 := by rw [← Nat.pow_add]; congr 1; omega
  have SF : 2 ^ (k - h) * 2 ^ E = 2 ^ (h + (b + 1)) := by rw [← Nat.pow_add]; congr 1; omega
  have KF : 2 ^ (k + (b + 1)) * 2 ^ E = 2 ^ (h + (b + 1)) * 2 ^ (h + (b + 1)) := by rw [← Nat.pow_add, ← Nat.pow_add]; congr 1; omega
  have h1 : 128 * D ≤ 2 ^ E := by
    have : 2 ^ (b + 1 + 7) ≤ 2 ^ E := Nat.pow_le_pow_right (by omega) (by omega)
    rw [Nat.pow_add] at this
    omega
  have G0 : 0 < 2 ^ cut := Nat.pow_pos (by omega)
  obtain ⟨g, hg⟩ : ∃ g, 2 ^ cut = g + 1 := ⟨2 ^ cut - 1, by omega⟩
  have h2 : 4 * (y * g) ≤ 2 ^ E := by
    by_cases hc0 : h + (b + 1) - k - 4 = 0
    · rw [hcut, hc0] at hg
      have : g = 0 := by omega
      rw [this]
      omega
    · have e4 : 2 ^ E = 2 ^ cut * (16 * 2 ^ h) := by
        rw [hF, show e2 = h + 4 by omega, Nat.pow_add]
        grind
      have h20 : 0 < 2 ^ h := Nat.pow_pos (by omega)
      have : y * g ≤ (4 * 2 ^ h) * 2 ^ cut := Nat.mul_le_mul (by omega) (by omega)
      rw [e4]
      grind
  have hH : 0 < 2 ^ e2 := Nat.pow_pos (by omega)
  have hE0 : 0 < 2 ^ E := Nat.pow_pos (by omega)
  have hD : 0 < D := Nat.lt_of_lt_of_le (Nat.pow_pos (by omega)) b0
  have c1 := cut_le (y := y) (R := R) hF rfl
  have c2 := cut_gt (y := y) (R := R) hg hH hF rfl
  unfold NearQ
  rcases hx with ⟨e, ex⟩ | ⟨e, ex⟩
  · exact step_up hD hE0 SF KF c1 c2 hR h1 h2 e ex
  · exact step_down hD hE0 SF KF c1 c2 hR h1 h2 e ex

/-- What is taken away is not more than there is. -/
theorem step_ok {D b k h cut R y : Nat} (b1 : D < 2 ^ (b + 1)) (hk : 60 < k) (hh : h = k / 2 + 4) (hcut : cut = h + (b + 1) - k - 4) (hR : R < 2 * D) : y * (R / 2 ^ cut) / 2 ^ (2 * h + (b + 1) - k - cut) ≤ y * 2 ^ (k - h) := by
  obtain ⟨E, hE⟩ : ∃ E, E = 2 * h + (b + 1) - k := ⟨_, rfl⟩
  obtain ⟨e2, he2⟩ : ∃ e2, e2 = 2 * h + (b + 1) - k - cut := ⟨_, rfl⟩
  rw [← he2]
  have hF : 2 ^ E = 2 ^ cut * 2 ^ e2 := by rw [← Nat.pow_add]; congr 1; omega
  have SF : 2 ^ (k - h) * 2 ^ E = 2 ^ (h + (b + 1)) := by rw [← Nat.pow_add]; congr 1; omega
  have c1 := cut_le (y := y) (R := R) hF rfl
  have hb : 2 * 2 ^ (b + 1) ≤ 2 ^ (h + (b + 1)) := by
    have : 2 ^ (1 + (b + 1)) ≤ 2 ^ (h + (b + 1)) := Nat.pow_le_pow_right (by omega) (by omega)
    rw [Nat.pow_add] at this
    omega
  refine Nat.le_of_mul_le_mul_left ?_ (Nat.two_pow_pos E)
  refine Nat.le_trans c1 ?_
  rw [show 2 ^ E * (y * 2 ^ (k - h)) = y * (2 ^ (k - h) * 2 ^ E) by grind, SF]
  exact Nat.mul_le_mul_left y (by omega)

theorem wl_bits {n b : Nat} (h : n < 2 ^ b) : wl n ≤ (b + 63) / 64 := by
  refine wl_lt _ _ (Nat.lt_of_lt_of_le h ?_)
  rw [show (18446744073709551616 : Nat) = 2 ^ 64 by decide, ← Nat.pow_mul]
  exact Nat.pow_le_pow_right (by omega) (by omega)
theorem lt_wl {n l : Nat} (h : wl n ≤ l) : n < 18446744073709551616 ^ l := by
  refine Nat.lt_of_not_le fun h2 => ?_
  have := wl_ge _ _ h2
  omega
theorem wl_mono {m n : Nat} (h : m ≤ n) : wl m ≤ wl n := wl_lt _ _ (Nat.lt_of_le_of_lt h (lt_wl (Nat.le_refl _)))

theorem wl_mul (a c : Nat) : wl (a * c) ≤ wl a + wl c := by
  by_cases hc : c = 0
  · rw [hc, Nat.mul_zero, wl_zero]; omega
  · refine wl_lt _ _ ?_
    rw [Nat.pow_add]
    exact Nat.mul_lt_mul'' (lt_wl (Nat.le_refl _)) (lt_wl (Nat.le_refl _))
theorem near_wl {D b k X : Nat} (hD : 2 ^ b ≤ D) (h : NearQ 8 D (b + 1) k X) : wl X ≤ (k + 65) / 64 := by
  have h1 := near_lt hD h
  have h2 : 0 < 2 ^ k := Nat.two_pow_pos k
  exact wl_bits (b := k + 2) (by rw [Nat.pow_add]; omega)
/-- The divisor with the digits that a guess asks for. -/
theorem cut_ex {D b k c : Nat} (h0 : 2 ^ b ≤ D) (h1 : D < 2 ^ (b + 1)) (hc : c = b + 1 - (k + 4)) : ∃ b', 2 ^ b' ≤ D / 2 ^ c ∧ D / 2 ^ c < 2 ^ (b' + 1) ∧ b' + 1 ≤ k + 4 ∧ b' ≤ b ∧ ∀ X, NearQ 7 (D / 2 ^ c) (b' + 1) k X → NearQ 8 D (b + 1) k X := by
  by_cases h : b + 1 ≤ k + 4
  · have : c = 0 := by omega
    subst this
    rw [Nat.pow_zero, Nat.div_one]
    exact ⟨b, h0, h1, h, Nat.le_refl _, fun X hX => near_more hX (by omega)⟩
  · have e0 : 2 ^ b = 2 ^ (k + 3) * 2 ^ c := by rw [← Nat.pow_add]; congr 1; omega
    have e1 : 2 ^ (b + 1) = 2 ^ (k + 3 + 1) * 2 ^ c := by rw [← Nat.pow_add]; congr 1; omega
    have hp := Nat.two_pow_pos c
    have h2 : 2 ^ (k + 3) ≤ D / 2 ^ c := (Nat.le_div_iff_mul_le hp).2 (by omega)
    have h3 : D / 2 ^ c < 2 ^ (k + 3 + 1) := (Nat.div_lt_iff_lt_mul hp).2 (by omega)
    refine ⟨k + 3, h2, h3, by omega, by omega, fun X hX => ?_⟩
    have := near_cut (D := D) (c := c) (r := D % 2 ^ c) (by rw [Nat.mul_comm]; exact (Nat.div_add_mod _ _).symm) (Nat.mod_lt _ hp) rfl h2 hX
    rw [show k + 4 + c = b + 1 by omega] at this
    exact this
/-- How many words the rest has, once it is cut. -/
theorem rest_wl {D b k h cut R : Nat} (b1 : D < 2 ^ (b + 1)) (hk : h ≤ k) (hcut : cut = h + (b + 1) - k - 4) (hR : R < 2 * D) : wl (R / 2 ^ cut) ≤ (k + 5 - h + 63) / 64 := by
  refine wl_bits ((Nat.div_lt_iff_lt_mul (Nat.two_pow_pos cut)).2 ?_)
  rw [← Nat.pow_add]
  have : 2 ^ (b + 1 + 1) ≤ 2 ^ (k + 5 - h + cut) := Nat.pow_le_pow_right (by omega) (by omega)
  rw [Nat.pow_succ] at this
  omega
theorem near_gap {D b h R y : Nat} (N : NearQ 8 D (b + 1) h y) (hx : 2 ^ (h + (b + 1)) = y * D + R ∨ 2 ^ (h + (b + 1)) + R = y * D) : R < 2 * D := by
  obtain ⟨n1, n2⟩ := N
  rcases hx with e | e <;> omega

/-- What one step spends at the most. -/
def stp (k : Nat) : Nat := 8 * ((k / 2 + 69) / 64 * ((k + 67) / 64) + (k / 2 + 69) / 64 * ((k + 64 - k / 2) / 64))
/-- What all steps spend at the most. -/
def ncF : Nat → Nat → Nat
  | 0, _ => 4
  | f + 1, k => if k ≤ 60 then 4 else ncF f (k / 2 + 4) + stp k
theorem ncF_small (f : Nat) {k : Nat} (h : k ≤ 60) : ncF f k = 4 := by cases f <;> simp [ncF, h]
theorem ncF_one : ∀ (f g k : Nat), k ≤ f → k ≤ g → ncF f k = ncF g k
  | 0, g, k, h1, _ => by rw [ncF_small 0 (by omega), ncF_small g (by omega)]
  | f + 1, g, k, h1, h2 => by
    by_cases h0 : k ≤ 60
    · rw [ncF_small _ h0, ncF_small _ h0]
    · obtain ⟨j, rfl⟩ : ∃ j, g = j + 1 := ⟨g - 1, by omega⟩
      simp only [ncF, if_neg h0]
      rw [ncF_one f j _ (by omega) (by omega)]
def nc (k : Nat) : Nat := ncF k k
theorem nc_small {k : Nat} (h : k ≤ 60) : nc k = 4 := ncF_small k h
theorem nc_great {k : Nat} (h : ¬ k ≤ 60) : nc k = nc (k / 2 + 4) + stp k := by
  obtain ⟨j, rfl⟩ : ∃ j, k = j + 1 := ⟨k - 1, by omega⟩
  unfold nc
  rw [ncF, if_neg h, ncF_one j _ _ (by omega) (Nat.le_refl _)]
theorem stp_le {k : Nat} (h : k ≤ 1048576) : stp k ≤ 4294967296 := by
  have a1 : (k / 2 + 69) / 64 * ((k + 67) / 64) ≤ 8194 * 16386 := Nat.mul_le_mul (by omega) (by omega)
  have a2 : (k / 2 + 69) / 64 * ((k + 64 - k / 2) / 64) ≤ 8194 * 16386 := Nat.mul_le_mul (by omega) (by omega)
  unfold stp
  omega
theorem nc_le : ∀ k : Nat, k ≤ 1048576 → nc k ≤ 4294967296 * (k + 1) := by
  intro k
  induction k using Nat.strongRecOn with
  | _ k ih =>
    intro hk
    by_cases h : k ≤ 60
    · rw [nc_small h]; omega
    · rw [nc_great h]
      have := ih (k / 2 + 4) (by omega) (by omega)
      have := stp_le hk
      omega

end Go.Proofs.YtpcfghnenhnlpaaGreatDoor

/- DivWord of limb: by one word. -/
namespace Go.Proofs.YtpcfghnenhnlpaaGreatDoor
open Go.RowKit

set_option maxRecDepth 100000 in
set_option maxHeartbeats 1600000 in
theorem norm_blk (w : World) (u : Value) (m : Nat) (hu : InW w u m) :
    Calls Tryz.prog 46 #[u] w fun e w' => ∃ us, WCan us ∧ wval us = m ∧ us.length ≤ 1073741824 ∧ e = .returned (.slice (some ⟨w.heap.size, 0, none⟩) us.length us.length) ∧ Blk w' w.heap.size us ∧ Below w.heap.size w w' := by
  obtain ⟨ga, ba, oa, ca, us, rA, cA, vA, lA, CA⟩ := trim_in hu
  have CA := hide CA
  obtain ⟨la, hla⟩ : ∃ la, la = us.length := ⟨_, rfl⟩
  rw [← hla] at CA lA
  have HLA := hide hla
  clear hu hla
  go_enter Tryz.func46, Tryz.ntmps46
  go_wp2_with fail
  refine (unhide CA).mono ?_
  rintro e w1 ⟨rfl, rfl⟩
  clear CA
  go_wp2_with fail
  refine (copyOf_any _ ga ba oa ca la us (unhide HLA).symm (by omega) rA).mono ?_
  rintro e w3 ⟨rfl, k3, b3⟩
  go_wp2
  go_ret
  exact ⟨us, cA, vA, by rw [← unhide HLA]; exact lA, by rw [← unhide HLA]; exact ret_slice rfl, k3, b3⟩

/-- From place k on the words are divided; r is left. -/
def WDivAt (us zs : List Nat) (y k r : Nat) : Prop := zs.length = us.length ∧ WDig zs ∧ r < y ∧ (∀ j, j < k → zs.getD j 0 = us.getD j 0) ∧ wval (us.drop k) = wval (zs.drop k) * y + r

theorem drop_cons (xs : List Nat) (j : Nat) (h : j < xs.length) : xs.drop j = xs.getD j 0 :: xs.drop (j + 1) := by
  rw [List.drop_eq_getElem_cons h, getD_lt h]
theorem wdiv_start {us : List Nat} {y : Nat} (h : WDig us) (hy : 0 < y) : WDivAt us us y us.length 0 := ⟨rfl, h, hy, fun _ _ => rfl, by simp [wval]⟩
theorem wdiv_step {us zs : List Nat} {y j r c Q R : Nat} (h : WDivAt us zs y (j + 1) r) (hj : j < us.length) (hy : y < 18446744073709551616) (hc : c = zs.getD j 0) (hQ : Q = (18446744073709551616 * r + c) / y) (hR : R = (18446744073709551616 * r + c) % y) :
    WDivAt us (zs.set j Q) y j R ∧ Q < 18446744073709551616 := by
  obtain ⟨h1, h2, h3, h4, h5⟩ := h
  have hc64 : c < 18446744073709551616 := by rw [hc]; exact h2 j
  have hQ64 : Q < 18446744073709551616 := by
    rw [hQ, Nat.div_lt_iff_lt_mul (by omega)]
    have : 18446744073709551616 * (r + 1) ≤ 18446744073709551616 * y := Nat.mul_le_mul_left _ h3
    omega
  refine ⟨⟨by simpa using h1, wDig_set h2 (by omega) hQ64, by rw [hR]; exact Nat.mod_lt _ (by omega), fun i hi => ?_, ?_⟩, hQ64⟩
  · rw [getD_set _ _ _ _ (by omega), if_neg (by omega)]
    exact h4 i (by omega)
  · have e1 : (zs.set j Q).drop j = Q :: zs.drop (j + 1) := by
      rw [drop_cons _ j (by simpa using (by omega : j < zs.length)), getD_set _ _ _ _ (by omega), if_pos rfl]
      congr 1
      rw [List.drop_set, if_pos (by omega)]
    have e2 : us.drop j = c :: us.drop (j + 1) := by rw [drop_cons us j hj, hc, h4 j (by omega)]
    have e3 : Q * y + R = 18446744073709551616 * r + c := by rw [hQ, hR]; exact Nat.div_add_mod' _ _
    rw [e1, e2]
    simp only [wval]
    rw [h5, Nat.add_mul, Nat.mul_assoc]
    generalize wval (zs.drop (j + 1)) * y = T at *
    generalize Q * y = U at *
    omega
theorem wdiv_end {us zs : List Nat} {y r : Nat} (h : WDivAt us zs y 0 r) : wval zs = wval us / y ∧ r = wval us % y := by
  obtain ⟨_, _, h3, _, h5⟩ := h
  rw [List.drop_zero, List.drop_zero] at h5
  rw [h5, Nat.mul_comm]
  constructor
  · rw [Nat.mul_add_div (by omega), Nat.div_eq_of_lt h3, Nat.add_zero]
  · rw [Nat.mul_add_mod, Nat.mod_eq_of_lt h3]

set_option maxRecDepth 100000 in
set_option maxHeartbeats 3200000 in
theorem divWord_w (w : World) (u : Value) (m y : Nat) (hy0 : 0 < y) (hy : y < 18446744073709551616) (hu : InW w u m) :
    Calls Tryz.prog 48 #[u, .int .u64 (y : Int)] w fun e w' => ∃ q, e = .returned (.tuple #[q, .int .u64 ((m % y : Nat) : Int), .int .i64 0]) ∧ NewW w.heap.size w' q (m / y) ∧ Below w.heap.size w w' := by
  obtain ⟨R, hR⟩ : ∃ R, R = m % y := ⟨_, rfl⟩
  obtain ⟨Q, hQ⟩ : ∃ Q, Q = m / y := ⟨_, rfl⟩
  rw [← hR, ← hQ]
  have HR := hide hR
  have HQ := hide hQ
  have hyz : ((y : Int) == 0) = false := by rw [beq_eq_false_iff_ne]; omega
  clear hR hQ
  go_enter Tryz.func48, Tryz.ntmps48
  go_wp2_with fail
  refine (norm_blk _ _ m hu).mono ?_
  rintro e w1 ⟨us, cU, vU, lU, rfl, k1, b1⟩
  obtain ⟨la, hla⟩ : ∃ la, la = us.length := ⟨_, rfl⟩
  rw [← hla] at lU ⊢
  have HLA := hide hla
  have HVU := hide vU
  clear hla hu vU
  go_wp2
  go_loopw [8, 9] (fun rv i wr => ∃ (k r : Nat) (zs : List Nat), k ≤ la ∧ rv = .int .u64 (r : Int) ∧ i = .int .i64 ((k : Int) - 1) ∧ zs.length = la ∧ r < y ∧ Blk wr w.heap.size zs ∧ Hid (WDivAt us zs y k r) ∧ Below w.heap.size w wr)
    (fun _ i _ => (intOf i + 1).toNat)
  case atStart => exact ⟨la, 0, us, Nat.le_refl _, rfl, rfl, (unhide HLA).symm, hy0, k1, by rw [unhide HLA]; exact wdiv_start cU.1 hy0, b1⟩
  case round =>
    obtain ⟨k, r, zs, hk, rfl, rfl, hzl, hr, hBlk, hAt, hnx⟩ := hrel
    by_cases h0 : k = 0
    · subst h0
      obtain ⟨e1, e2⟩ := wdiv_end hAt.out
      rw [unhide HVU] at e1 e2
      have hq : wval zs = Q := by rw [unhide HQ]; exact e1
      have hr2 : (r : Int) = (R : Int) := by rw [unhide HR, e2]
      have hd := hAt.out.2.1
      have HQ2 := hide hq
      have HR2 := hide hr2
      clear e1 e2 hq hr2 hAt
      go_wp2_with fail
      refine (trim_blk (B := w.heap.size) hzl (by omega) (Nat.le_refl _) hBlk hd).mono ?_
      rintro e w6 ⟨q, rfl, hq, rfl⟩
      rw [unhide HQ2] at hq
      go_wp2
      go_ret3
      exact ⟨q, by rw [← unhide HR2]; rfl, hq, hnx⟩
    · obtain ⟨j, rfl⟩ : ∃ j, k = j + 1 := ⟨k - 1, by omega⟩
      have ej : ((j + 1 : Nat) : Int) - 1 = (j : Int) := by omega
      rw [ej]
      obtain ⟨c, hc⟩ : ∃ c : Nat, c = zs.getD j 0 := ⟨_, rfl⟩
      have cr : wr.cell? ⟨w.heap.size, j, none⟩ = some (.int .u64 (c : Int)) := by rw [hc]; exact hBlk.cell j (by omega)
      have hc64 : c < 18446744073709551616 := by rw [hc]; exact hAt.out.2.1 j
      obtain ⟨Qd, hQd⟩ : ∃ Qd, Qd = (18446744073709551616 * r + c) / y := ⟨_, rfl⟩
      obtain ⟨Rd, hRd⟩ : ∃ Rd, Rd = (18446744073709551616 * r + c) % y := ⟨_, rfl⟩
      obtain ⟨H2, hq64⟩ := wdiv_step hAt.out (by rw [← unhide HLA]; omega) hy hc hQd hRd
      have hR2 := H2.2.2.1
      have H2 := hide H2
      have CD := hide (fun w => word_div r c y Qd Rd w hr hc64 hy hQd hRd)
      clear hc hQd hRd hAt
      go_wp2_with fail
      refine (unhide CD _).mono ?_
      rintro e w5 ⟨rfl, b5⟩
      have cr := hBlk.next b5
      have cr2 := cr.cell j (by omega)
      have fr := cr.frozen j
      have hnx := hnx.trans (b5.mono hnx.size)
      clear b5
      go_wp2
      exact ⟨⟨j, Rd, zs.set j Qd, by omega, rfl, by go_num, by simpa using hzl, hR2, cr.set j Qd, H2, hnx.setCell (Nat.le_refl _) _⟩, by simp [intOf]⟩

end Go.Proofs.YtpcfghnenhnlpaaGreatDoor

/- timesPlus, AddMul, MulWord and SubMul of limb: by one word. -/
namespace Go.Proofs.YtpcfghnenhnlpaaGreatDoor
open Go.RowKit

theorem ltimes_lt {x y c : Nat} (hx : x < 18446744073709551616) (hy : y < 18446744073709551616) (hc : c < 18446744073709551616) : x * y + c ≤ 18446744073709551616 * 18446744073709551615 := by
  have : x * y ≤ 18446744073709551615 * 18446744073709551615 := Nat.mul_le_mul (by omega) (by omega)
  omega

set_option maxHeartbeats 800000 in
theorem ltimesPlus_any (x y c P hi lo : Nat) (w : World) (hx : x < 18446744073709551616) (hy : y < 18446744073709551616) (hc : c < 18446744073709551616) (hP : P = x * y + c) (hh : hi = P / 18446744073709551616) (hl : lo = P % 18446744073709551616) :
    Calls Tryz.prog 152 #[.int .u64 (x : Int), .int .u64 (y : Int), .int .u64 (c : Int)] w fun e w' => e = .returned (.tuple #[.int .u64 (hi : Int), .int .u64 (lo : Int)]) ∧ w' = w := by
  have hb := ltimes_lt hx hy hc
  have CM := hide (fun w => word_mul x y w hx hy)
  have hp2 : x * y / 18446744073709551616 * 18446744073709551616 + x * y % 18446744073709551616 = x * y := Nat.div_add_mod' _ _
  have hp3 : x * y % 18446744073709551616 < 18446744073709551616 := Nat.mod_lt _ (by omega)
  generalize x * y / 18446744073709551616 = h0 at *
  generalize x * y % 18446744073709551616 = l0 at *
  have CA := hide (fun w => word_add l0 c 0 0 w (Or.inl ⟨rfl, rfl⟩))
  have e1 : ((l0 + c + 0) % 18446744073709551616) = lo := by omega
  have e2 : h0 + (l0 + c + 0) / 18446744073709551616 = hi := by omega
  rw [e1] at CA
  have hlt : hi < 18446744073709551616 := by omega
  generalize (l0 + c + 0) / 18446744073709551616 = o at *
  have e3 : (h0 : Int) + (o : Int) = (hi : Int) := by omega
  clear hb hP hh hl hp2 e1 e2 hx hy hc hp3
  go_enter Tryz.func152, Tryz.ntmps152
  go_wp2_with fail
  refine (unhide CM _).mono ?_
  rintro e w1 ⟨rfl, rfl⟩
  go_wp2_with fail
  refine (unhide CA _).mono ?_
  rintro e w2 ⟨rfl, rfl⟩
  go_wp2
  go_ret2
  exact ⟨ret_two rfl rfl, rfl⟩

/-- k words of bs times y are added; c is carried. -/
def MAddAt (z0 zs bs : List Nat) (y k c : Nat) : Prop := zs.length = z0.length ∧ WDig zs ∧ c < 18446744073709551616 ∧ wval zs + 18446744073709551616 ^ k * c = wval z0 + y * wval (bs.take k)
theorem madd_start {z0 : List Nat} (h : WDig z0) (bs : List Nat) (y : Nat) : MAddAt z0 z0 bs y 0 0 := ⟨rfl, h, by omega, by simp [wval]⟩
theorem madd_step {z0 zs bs : List Nat} {y k c r b P hi lo : Nat} (h : MAddAt z0 zs bs y k c) (hk : k < zs.length) (hr : r = zs.getD k 0) (hb : b = bs.getD k 0) (hb64 : b < 18446744073709551616) (hy : y < 18446744073709551616) (hP : P = b * y + c) (hh : hi = P / 18446744073709551616) (hl : lo = P % 18446744073709551616) :
    MAddAt z0 (zs.set k ((r + lo + 0) % 18446744073709551616)) bs y (k + 1) ((r + lo + 0) / 18446744073709551616 + hi) := by
  obtain ⟨h1, h2, h3, h4⟩ := h
  have hr64 : r < 18446744073709551616 := by rw [hr]; exact h2 _
  have hb' := ltimes_lt hb64 hy h3
  rw [← hP] at hb'
  refine ⟨by simpa using h1, wDig_set h2 hk (Nat.mod_lt _ (by omega)), by omega, ?_⟩
  have hs := wval_set zs k ((r + lo + 0) % 18446744073709551616) hk
  rw [← hr] at hs
  have hPe : 18446744073709551616 * hi + lo = P := by rw [hh, hl]; exact Nat.div_add_mod _ _
  rw [wval_take_succ, ← hb, Nat.mul_add y, Nat.pow_succ, Nat.mul_assoc, Nat.mul_left_comm y]
  have e : 18446744073709551616 ^ k * ((r + lo + 0) % 18446744073709551616) + 18446744073709551616 ^ k * (18446744073709551616 * ((r + lo + 0) / 18446744073709551616 + hi)) = 18446744073709551616 ^ k * r + (18446744073709551616 ^ k * (y * b) + 18446744073709551616 ^ k * c) := by
    rw [← Nat.mul_add, ← Nat.mul_add, ← Nat.mul_add]
    congr 1
    rw [Nat.mul_comm y b]
    omega
  omega
theorem mul_room {us vs : List Nat} {y N : Nat} (h1 : WDig us) (h2 : WDig vs) (hy : y < 18446744073709551616) (hN : N = max us.length vs.length + 1) : wval us + y * wval vs < 18446744073709551616 ^ N := by
  have a := pow_up (wval_lt_pow h1) (q := N - 1) (by omega)
  have b := pow_up (wval_lt_pow h2) (q := N - 1) (by omega)
  have c : y * wval vs ≤ 18446744073709551615 * (18446744073709551616 ^ (N - 1) - 1) := Nat.mul_le_mul (by omega) (by omega)
  rw [show N = N - 1 + 1 from by omega, Nat.pow_succ]
  omega

set_option maxRecDepth 100000 in
set_option maxHeartbeats 3200000 in
theorem addMul_w (w : World) (u v : Value) (m n y : Nat) (hy : y < 18446744073709551616) (hu : InW w u m) (hv : InW w v n) :
    Calls Tryz.prog 143 #[u, v, .int .u64 (y : Int)] w fun e w' => ∃ r, e = .returned r ∧ NewW w.heap.size w' r (m + n * y) ∧ Below w.heap.size w w' := by
  obtain ⟨ga, ba, oa, ca, us, rA, cA, vA, lA, CA⟩ := trim_in hu
  obtain ⟨gb, bb, ob, cb, vs, rB, cB, vB, lB, CB⟩ := trim_in hv
  obtain ⟨N, hN⟩ : ∃ N, N = max us.length vs.length + 1 := ⟨_, rfl⟩
  have hroom := mul_room cA.1 cB.1 hy hN
  have hbN : vs.length + 1 ≤ N := by omega
  have hNb : N ≤ 1073741825 := by omega
  have CA := hide CA
  have CB := hide CB
  have HN := hide hN
  have hzl : (us ++ List.replicate (N - us.length) 0).length = N := by simp; omega
  have hz0 : wval (us ++ List.replicate (N - us.length) 0) = m := by rw [wval_pad, vA]
  have dz0 := wDig_pad cA.1 (N - us.length)
  obtain ⟨la, hla⟩ : ∃ la, la = us.length := ⟨_, rfl⟩
  obtain ⟨lb, hlb⟩ : ∃ lb, lb = vs.length := ⟨_, rfl⟩
  rw [← hla] at CA lA HN hzl hz0 dz0
  rw [← hlb] at CB lB HN hbN
  have HLA := hide hla
  have HLB := hide hlb
  have HR : Hid (m + y * n < 18446744073709551616 ^ N) := by show _ < _; rw [← vA, ← vB]; exact hroom
  have HVB := hide vB
  have hbb : 0 < vs.length → bb < w.heap.size := fun h => rB.lt h
  have HBB := hide hbb
  clear hu hv hN hroom hla hlb vA vB hbb
  go_enter Tryz.func143, Tryz.ntmps143
  go_wp2_with fail
  refine (unhide CA).mono ?_
  rintro e w1 ⟨rfl, rfl⟩
  go_wp2_with fail
  refine (unhide CB).mono ?_
  rintro e w2 ⟨rfl, rfl⟩
  clear CA CB
  go_wp2_with fail
  refine (wider_any _ ga gb ba oa ca cb la lb N us (unhide HLA).symm (by omega) (by omega) rA (unhide HN)).mono ?_
  rintro e w3 ⟨rfl, k3, b3⟩
  generalize us ++ List.replicate (N - la) 0 = z0 at *
  have rB := rB.next b3
  have HZ0 := hide hz0
  have HZL := hide hzl
  clear hz0 hzl
  go_wp2
  go_loopw [8, 22] (fun c i wr => ∃ (k cy : Nat) (zs : List Nat), k ≤ lb ∧ c = .int .u64 (cy : Int) ∧ i = .int .i64 (k : Int) ∧ cy < 18446744073709551616 ∧ Blk wr w2.heap.size zs ∧ Hid (MAddAt z0 zs vs y k cy) ∧ Rep wr gb bb ob cb vs ∧ Below w2.heap.size w2 wr)
    (fun _ i _ => lb - (intOf i).toNat)
  case atStart => exact ⟨0, 0, z0, Nat.zero_le _, rfl, rfl, by omega, k3, madd_start dz0 vs y, rB, b3⟩
  case round =>
    obtain ⟨k, cy, zs, hk, rfl, rfl, hcy, hBlk, hAt, hRb, hnx⟩ := hrel
    have hzl : zs.length = N := by rw [hAt.out.1]; exact unhide HZL
    by_cases h1 : k < lb
    · obtain rfl := hRb.head (by rw [← unhide HLB]; omega)
      obtain ⟨b, hb⟩ : ∃ b : Nat, b = vs.getD k 0 := ⟨_, rfl⟩
      have hb64 : b < 18446744073709551616 := by rw [hb]; exact cB.1 k
      have cbk : wr.cell? ⟨bb, ob + k, none⟩ = some (.int .u64 (b : Int)) := by rw [hb]; exact hRb.cell k (by rw [← unhide HLB]; omega)
      obtain ⟨r, hr⟩ : ∃ r : Nat, r = zs.getD k 0 := ⟨_, rfl⟩
      have cr : wr.cell? ⟨w2.heap.size, k, none⟩ = some (.int .u64 (r : Int)) := by rw [hr]; exact hBlk.cell k (by omega)
      have fr := hBlk.frozen k
      obtain ⟨P, hP⟩ : ∃ P, P = b * y + cy := ⟨_, rfl⟩
      obtain ⟨hi, hh⟩ : ∃ hi, hi = P / 18446744073709551616 := ⟨_, rfl⟩
      obtain ⟨lo, hl⟩ : ∃ lo, lo = P % 18446744073709551616 := ⟨_, rfl⟩
      have CT := hide (fun w => ltimesPlus_any b y cy P hi lo w hb64 hy hcy hP hh hl)
      have H2 := hide (madd_step hAt.out (by omega) hr hb hb64 hy hP hh hl)
      have CA := hide (fun w => word_add r lo 0 0 w (Or.inl ⟨rfl, rfl⟩))
      have hc2 := (unhide H2).2.2.1
      generalize (r + lo + 0) % 18446744073709551616 = d at *
      generalize (r + lo + 0) / 18446744073709551616 = c1 at *
      obtain ⟨c2, hc2e⟩ : ∃ c2, c2 = c1 + hi := ⟨_, rfl⟩
      rw [← hc2e] at H2 hc2
      have ec : (c1 : Int) + (hi : Int) = (c2 : Int) := by omega
      have hne : 0 < vs.length → bb ≠ w2.heap.size := fun h => by have := unhide HBB h; omega
      have HNE := hide hne
      clear hr hb hP hh hl hc2e hne
      go_wp2_with fail
      refine (unhide CT _).mono ?_
      rintro e w4 ⟨rfl, rfl⟩
      go_wp2_with fail
      refine (unhide CA _).mono ?_
      rintro e w5 ⟨rfl, rfl⟩
      go_wp2
      exact ⟨⟨k + 1, c2, _, by omega, by first | rfl | exact congrArg (Value.int .u64) ec, by go_num, hc2, hBlk.set k d, H2, hRb.but (grown_set _ _ _ _) (unhide HNE), hnx.setCell (Nat.le_refl _) _⟩, by simp [intOf]; omega⟩
    · obtain rfl : k = lb := by omega
      obtain ⟨M, hM⟩ : ∃ M, N = k + M := ⟨N - k, by omega⟩
      have hM1 : 1 ≤ M := by omega
      have hMs : N - k = M := by omega
      have hNk : ¬ N = k := by omega
      have hki2 : 0 ≤ (k : Int) ∧ (k : Int) ≤ (N : Int) := by omega
      have htot : wval zs + 18446744073709551616 ^ k * cy = m + y * n := by
        have := hAt.out.2.2.2
        rw [wval_take_ge _ _ (by rw [← unhide HLB]; omega), unhide HZ0, unhide HVB] at this
        exact this
      have dz := hAt.out.2.1
      have hko : Blk (wr.alloc (.cells #[.int .u64 (cy : Int)] 44)) wr.heap.size [cy] := heap_alloc_new wr _
      have hro := hko.rep 0 1 1 (by simp) (by omega)
      have hbA : Below wr.heap.size wr (wr.alloc (.cells #[.int .u64 (cy : Int)] 44)) := (Below.refl _ _).alloc (Nat.le_refl _) _
      have hgl := hBlk.lt
      have CAT := hide (addTo_any _ w2.heap.size k M M wr.heap.size 0 1 1 (some ⟨wr.heap.size, 0, none⟩) zs [cy] (by rw [hzl, hM]) rfl hM1 (by omega) (hBlk.next hbA) dz hro (wDig_one hcy) (fun _ => by omega) (by rw [wval_one, htot, ← hM]; exact unhide HR))
      rw [wval_one, htot, ← hM] at CAT
      have hb5 := hnx.trans (hbA.mono hnx.size)
      have HB5 := hide hb5
      clear hko hro hbA htot dz hM hb5 hAt
      go_wp2_with fail
      refine (unhide CAT).mono ?_
      rintro e w5 ⟨rfl, zs', hl5, hd5, k5, hv5, g5⟩
      have b5 := below_grown (unhide HB5) g5 (Nat.le_refl _) (unhide HB5).size
      clear CAT HB5 g5
      go_wp2_with fail
      refine (trim_blk (B := w2.heap.size) hl5 (by omega) (Nat.le_refl _) k5 hd5).mono ?_
      rintro e w6 ⟨r, rfl, hr, rfl⟩
      rw [hv5, Nat.mul_comm y n] at hr
      go_wp2
      go_ret
      exact ⟨r, rfl, hr, b5⟩

end Go.Proofs.YtpcfghnenhnlpaaGreatDoor

/- wordsAndPlaces and Shl of limb. -/
namespace Go.Proofs.YtpcfghnenhnlpaaGreatDoor
open Go.RowKit

theorem ret_ii {a b c d : Int} (h : a = b) (h' : c = d) : Ending.returned (.tuple #[.int .i64 a, .int .i64 c]) = .returned (.tuple #[.int .i64 b, .int .i64 d]) := by rw [h, h']

set_option maxHeartbeats 400000 in
theorem wp_any (z : Int) (k s t : Nat) (w : World) (hk : (k : Int) = min (max z 0) 1048576) (hs : s = k / 64) (ht : t = k % 64) :
    Calls Tryz.prog 68 #[.int .i64 z] w fun e w' => e = .returned (.tuple #[.int .i64 (s : Int), .int .i64 (t : Int)]) ∧ w' = w := by
  have CW := hide (fun w => within_lim z 1048576 k w hk)
  have es : (k : Int) / 64 = (s : Int) := by omega
  have et : (k : Int) % 64 = (t : Int) := by omega
  have hkb : k ≤ 1048576 := by omega
  have ES := hide es
  have ET := hide et
  clear hk hs ht
  go_enter Tryz.func68, Tryz.ntmps68
  go_wp2_with fail
  refine (unhide CW _).mono ?_
  rintro e w1 ⟨rfl, rfl⟩
  go_wp2
  go_ret2
  exact ⟨ret_ii (by first | rfl | exact unhide ES) (by first | rfl | exact unhide ET), rfl⟩

/-- A word moved up by t places: what stays in it, what goes out. -/
theorem up_word {x t c : Nat} (hx : x < 18446744073709551616) (ht : t < 64) (hc : c < 2 ^ t) :
    ((x * 2 ^ t) % 18446744073709551616) ||| c = (x * 2 ^ t) % 18446744073709551616 + c ∧ (x * 2 ^ t) % 18446744073709551616 + c < 18446744073709551616 ∧ x / 2 ^ (64 - t) < 2 ^ t ∧
      (x * 2 ^ t) % 18446744073709551616 + 18446744073709551616 * (x / 2 ^ (64 - t)) = x * 2 ^ t := by
  have hp := pow_split t (by omega)
  have hpos : 0 < 2 ^ t := Nat.pow_pos (by omega)
  have hpos2 : 0 < 2 ^ (64 - t) := Nat.pow_pos (by omega)
  have e1 : x * 2 ^ t % 18446744073709551616 = x % 2 ^ (64 - t) * 2 ^ t := by
    rw [← hp, Nat.mul_mod_mul_right]
  have e2 : x / 2 ^ (64 - t) < 2 ^ t := by rw [Nat.div_lt_iff_lt_mul hpos2, Nat.mul_comm, hp]; exact hx
  have hm := Nat.mod_lt x hpos2
  have hd := Nat.div_add_mod x (2 ^ (64 - t))
  refine ⟨?_, ?_, e2, ?_⟩
  · rw [e1]; exact or_add _ _ _ hc
  · rw [e1]
    have h2 : (x % 2 ^ (64 - t) + 1) * 2 ^ t ≤ 2 ^ (64 - t) * 2 ^ t := Nat.mul_le_mul_right _ hm
    rw [Nat.add_mul, Nat.one_mul, hp] at h2
    omega
  · rw [e1, ← hp]
    have : x * 2 ^ t = (2 ^ (64 - t) * (x / 2 ^ (64 - t)) + x % 2 ^ (64 - t)) * 2 ^ t := by rw [hd]
    rw [this, Nat.add_mul, Nat.mul_right_comm]
    omega

/-- k words are moved up by s words and t places; c is carried. -/
def WShlAt (us zs : List Nat) (N s t k c : Nat) : Prop := zs.length = N ∧ WDig zs ∧ c < 2 ^ t ∧ (∀ j, s + k ≤ j → zs.getD j 0 = 0) ∧ wval zs + 18446744073709551616 ^ (s + k) * c = 18446744073709551616 ^ s * (2 ^ t * wval (us.take k))
theorem wshl_start (us : List Nat) (N s t : Nat) : WShlAt us (List.replicate N 0) N s t 0 0 := by
  refine ⟨by simp, (wzeros N).1, Nat.pow_pos (by omega), fun j _ => ?_, by rw [(wzeros N).2]; simp [wval]⟩
  simp only [List.getD_eq_getElem?_getD, List.getElem?_replicate]; split <;> rfl
theorem wshl_step {us zs : List Nat} {N s t k c x d c2 : Nat} (h : WShlAt us zs N s t k c) (hk : s + k < N) (hx : x = us.getD k 0) (hx64 : x < 18446744073709551616) (ht : t < 64) (hd : d = (x * 2 ^ t) % 18446744073709551616 + c) (hc2 : c2 = x / 2 ^ (64 - t)) :
    WShlAt us (zs.set (s + k) d) N s t (k + 1) c2 := by
  obtain ⟨h1, h2, h3, h4, h5⟩ := h
  obtain ⟨e1, e2, e3, e4⟩ := up_word hx64 ht h3
  refine ⟨by simpa using h1, wDig_set h2 (by omega) (by rw [hd]; exact e2), by rw [hc2]; exact e3, fun j hj => ?_, ?_⟩
  · rw [getD_set _ _ _ _ (by omega), if_neg (by omega)]; exact h4 j (by omega)
  · have hs := wval_set zs (s + k) d (by omega)
    rw [h4 _ (Nat.le_refl _), Nat.mul_zero, Nat.add_zero] at hs
    rw [hs, wval_take_succ, ← hx, ← Nat.add_assoc s k 1, Nat.pow_succ, Nat.mul_assoc]
    have e5 : 18446744073709551616 ^ (s + k) * d + 18446744073709551616 ^ (s + k) * (18446744073709551616 * c2) = 18446744073709551616 ^ (s + k) * c + 18446744073709551616 ^ (s + k) * (x * 2 ^ t) := by
      rw [← Nat.mul_add, ← Nat.mul_add, hd, hc2]
      congr 1
      omega
    have e6 : 18446744073709551616 ^ s * (2 ^ t * (wval (us.take k) + 18446744073709551616 ^ k * x)) = 18446744073709551616 ^ s * (2 ^ t * wval (us.take k)) + 18446744073709551616 ^ (s + k) * (x * 2 ^ t) := by
      rw [Nat.mul_add, Nat.mul_add, Nat.pow_add, Nat.mul_left_comm (2 ^ t), Nat.mul_comm (2 ^ t) x, Nat.mul_assoc]
    omega
theorem wshl_end {us zs : List Nat} {N s t k c : Nat} (h : WShlAt us zs N s t k c) (hk : us.length ≤ k) (hN : s + k < N) (ht : t < 64) : WDig (zs.set (s + k) c) ∧ wval (zs.set (s + k) c) = wval us * 2 ^ (64 * s + t) := by
  obtain ⟨h1, h2, h3, h4, h5⟩ := h
  have hc : c < 18446744073709551616 := Nat.lt_of_lt_of_le h3 (by have := Nat.pow_le_pow_right (n := 2) (by omega) (by omega : t ≤ 64); omega)
  have hs := wval_set zs (s + k) c (by omega)
  rw [h4 _ (Nat.le_refl _), Nat.mul_zero, Nat.add_zero] at hs
  refine ⟨wDig_set h2 (by omega) hc, ?_⟩
  rw [hs, h5, wval_take_ge _ _ hk, Nat.pow_add, Nat.pow_mul, ← Nat.mul_assoc, Nat.mul_comm (wval us)]

set_option maxRecDepth 100000 in
set_option maxHeartbeats 3200000 in
theorem shl_w (w : World) (u : Value) (z : Int) (m k : Nat) (hz : (k : Int) = min (max z 0) 1048576) (hu : InW w u m) :
    Calls Tryz.prog 51 #[u, .int .i64 z] w fun e w' => ∃ r, e = .returned r ∧ NewW w.heap.size w' r (m * 2 ^ k) ∧ Below w.heap.size w w' := by
  obtain ⟨ga, ba, oa, ca, us, rA, cA, vA, lA, CA⟩ := trim_in hu
  have CA := hide CA
  obtain ⟨la, hla⟩ : ∃ la, la = us.length := ⟨_, rfl⟩
  have hzero := wval_zero cA
  rw [vA] at hzero
  rw [← hla] at CA lA hzero
  obtain ⟨s, hs⟩ : ∃ s, s = k / 64 := ⟨_, rfl⟩
  obtain ⟨t, ht⟩ : ∃ t, t = k % 64 := ⟨_, rfl⟩
  have CW := hide (fun w => wp_any z k s t w hz hs ht)
  have hkb : k ≤ 1048576 := by omega
  have hsb : s ≤ 16384 := by omega
  have ht64 : t < 64 := by omega
  have hke : k = 64 * s + t := by omega
  have HKE := hide hke
  have HLA := hide hla
  have HVA := hide vA
  by_cases h0 : la = 0
  · have hm0 : m = 0 := hzero.1 h0
    subst hm0 h0
    clear hu hla hzero hs ht hke hz
    go_enter Tryz.func51, Tryz.ntmps51
    go_wp2_with fail
    refine (unhide CA).mono ?_
    rintro e w1 ⟨rfl, rfl⟩
    clear CA
    go_wp2
    go_ret
    exact ⟨_, rfl, by rw [Nat.zero_mul]; exact newW_nil _ _, Below.refl _ _⟩
  · have hnz : ((la : Int) == 0) = false := by rw [beq_eq_false_iff_ne]; omega
    obtain ⟨N, hN⟩ : ∃ N, N = s + la + 1 := ⟨_, rfl⟩
    have hmk := make_nat N N ((s : Int) + (la : Int) + 1) (by omega) rfl (by omega)
    have hNb : N ≤ 1073758209 := by omega
    have hNl : s + la + 1 ≤ N := by omega
    obtain ⟨t2, ht2⟩ : ∃ t2, t2 = 64 - t := ⟨_, rfl⟩
    have et2 : (64 : Int) - (t : Int) = (t2 : Int) := by omega
    have HT2 := hide ht2
    have hk0 : Blk (w.alloc (.cells (zlist N).toArray 44)) w.heap.size (List.replicate N 0) := heap_alloc_new w _
    have hb0 : Below w.heap.size w (w.alloc (.cells (zlist N).toArray 44)) := (Below.refl _ _).alloc (Nat.le_refl _) _
    have HK0 := hide hk0
    have HB0 := hide hb0
    clear hu hla hzero hs ht hke hz h0 hN ht2 hk0 hb0
    go_enter Tryz.func51, Tryz.ntmps51
    go_wp2_with fail
    refine (unhide CA).mono ?_
    rintro e w1 ⟨rfl, rfl⟩
    clear CA
    go_wp2_with fail
    refine (unhide CW _).mono ?_
    rintro e w2 ⟨rfl, rfl⟩
    clear CW
    go_wp2
    clear hmk
    go_loopw [8, 29] (fun c i wr => ∃ (q cy : Nat) (zs : List Nat), q ≤ la ∧ c = .int .u64 (cy : Int) ∧ i = .int .i64 (q : Int) ∧ cy < 18446744073709551616 ∧ zs.length = N ∧ Blk wr w2.heap.size zs ∧ Hid (WShlAt us zs N s t q cy) ∧ Below w2.heap.size w2 wr)
      (fun _ i _ => la - (intOf i).toNat)
    case atStart => exact ⟨0, 0, List.replicate N 0, Nat.zero_le _, rfl, rfl, by omega, by simp, unhide HK0, wshl_start us N s t, unhide HB0⟩
    case round =>
      obtain ⟨q, cy, zs, hq, rfl, rfl, hcy, hzl, hBlk, hAt, hnx⟩ := hrel
      clear HK0 HB0
      by_cases h1 : q < la
      · obtain rfl := rA.head (by rw [← unhide HLA]; omega)
        obtain ⟨x, hx⟩ : ∃ x : Nat, x = us.getD q 0 := ⟨_, rfl⟩
        have hx64 : x < 18446744073709551616 := by rw [hx]; exact cA.1 q
        have cx : wr.cell? ⟨ba, oa + q, none⟩ = some (.int .u64 (x : Int)) := by rw [hx]; exact (hnx.cell (by exact rA.lt (by rw [← unhide HLA]; omega))).trans (rA.cell q (by rw [← unhide HLA]; omega))
        have cr : wr.cell? ⟨w2.heap.size, s + q, none⟩ = some (.int .u64 (((zs.getD (s + q) 0 : Nat)) : Int)) := hBlk.cell (s + q) (by omega)
        have fr := hBlk.frozen (s + q)
        have hc3 := hAt.out.2.2.1
        obtain ⟨e1, e2, e3, e4⟩ := up_word hx64 ht64 hc3
        obtain ⟨l, hl⟩ : ∃ l, l = x * 2 ^ t % 18446744073709551616 := ⟨_, rfl⟩
        have el := shl_mod x t
        rw [← hl] at el e1 e2
        obtain ⟨d, hd⟩ : ∃ d, d = l + cy := ⟨_, rfl⟩
        have hl64 : l < 18446744073709551616 := by omega
        have eo := bits_or_u64_nat l cy hl64 hcy
        rw [e1, ← hd] at eo
        obtain ⟨c2, hc2⟩ : ∃ c2, c2 = x / 2 ^ t2 := ⟨_, rfl⟩
        have es2 := shr_eq x t2
        rw [← hc2] at es2
        have H2 := hide (wshl_step (d := d) (c2 := c2) hAt.out (by omega) hx hx64 ht64 (by rw [hd, hl]) (by rw [hc2, unhide HT2]))
        have hc64 : c2 < 18446744073709551616 := by rw [hc2]; exact Nat.lt_of_le_of_lt (Nat.div_le_self _ _) hx64
        clear hx hl hd hc2 e1 e2 e3 e4 hc3 hAt
        go_wp2
        exact ⟨⟨q + 1, c2, zs.set (s + q) d, by omega, rfl, by go_num, hc64, by simpa using hzl, hBlk.set (s + q) d, H2, hnx.setCell (Nat.le_refl _) _⟩, by simp [intOf]; omega⟩
      · obtain rfl : q = la := by omega
        have cr : wr.cell? ⟨w2.heap.size, s + q, none⟩ = some (.int .u64 (((zs.getD (s + q) 0 : Nat)) : Int)) := hBlk.cell (s + q) (by omega)
        have fr := hBlk.frozen (s + q)
        obtain ⟨hd, hv⟩ := wshl_end hAt.out (by rw [← unhide HLA]; omega) (by omega) ht64
        rw [unhide HVA, ← unhide HKE] at hv
        have k5 := hBlk.set (s + q) cy
        have HV := hide hv
        have HK5 := hide k5
        have HB5 := hide (hnx.setCell (p := ⟨w2.heap.size, s + q, none⟩) (Nat.le_refl _) (.int .u64 (cy : Int)))
        have HL5 : Hid ((zs.set (s + q) cy).length = N) := by show _ = _; simpa using hzl
        clear hv k5 hAt
        go_wp2_with fail
        refine (trim_blk (B := w2.heap.size) (unhide HL5) (by omega) (Nat.le_refl _) (unhide HK5) hd).mono ?_
        rintro e w6 ⟨r, rfl, hr, rfl⟩
        rw [unhide HV] at hr
        go_wp2
        go_ret
        exact ⟨r, rfl, hr, unhide HB5⟩

end Go.Proofs.YtpcfghnenhnlpaaGreatDoor

/- Shr of limb. -/
namespace Go.Proofs.YtpcfghnenhnlpaaGreatDoor
open Go.RowKit

theorem Rep.dropS {w : World} {b o cap s : Nat} {xs : List Nat} (h : Rep w (some ⟨b, o, none⟩) b o cap xs) (hs : s ≤ xs.length) : Rep w (some ⟨b, o + s, none⟩) b (o + s) (cap - s) (xs.drop s) := by
  have hl : (xs.drop s).length = xs.length - s := by simp
  refine ⟨fun _ => rfl, by have := h.room; omega, fun j hj => ?_⟩
  have e : (xs.drop s).getD j 0 = xs.getD (s + j) 0 := by simp [List.getD_eq_getElem?_getD]
  rw [e, Nat.add_assoc]
  exact h.cell (s + j) (by omega)

/-- A word moved down by t places: r comes in from above. -/
theorem down_word {c r t : Nat} (hc : c < 18446744073709551616) (ht : t < 64) (hr : r < 2 ^ t) :
    (c / 2 ^ t) ||| (r * 2 ^ (64 - t)) = (18446744073709551616 * r + c) / 2 ^ t ∧ r * 2 ^ (64 - t) < 18446744073709551616 ∧ c * 2 ^ (64 - t) % 18446744073709551616 = ((18446744073709551616 * r + c) % 2 ^ t) * 2 ^ (64 - t) := by
  have hp := pow_split t (by omega)
  have hpos : 0 < 2 ^ t := Nat.pow_pos (by omega)
  have h1 : c / 2 ^ t < 2 ^ (64 - t) := by rw [Nat.div_lt_iff_lt_mul hpos, hp]; exact hc
  have h2 : (r + 1) * 2 ^ (64 - t) ≤ 2 ^ t * 2 ^ (64 - t) := Nat.mul_le_mul_right _ hr
  have e0 : 18446744073709551616 * r = 2 ^ t * (r * 2 ^ (64 - t)) := by
    rw [← hp, Nat.mul_comm (2 ^ (64 - t)), Nat.mul_assoc, Nat.mul_comm r]
  have hpos2 : 0 < 2 ^ (64 - t) := Nat.pow_pos (by omega)
  rw [Nat.add_mul, Nat.one_mul, Nat.mul_comm (2 ^ t), hp] at h2
  refine ⟨?_, by omega, ?_⟩
  · rw [Nat.or_comm, or_add r (c / 2 ^ t) (64 - t) h1, e0, Nat.mul_add_div hpos]
  · rw [e0, Nat.mul_add_mod, ← hp, Nat.mul_comm (2 ^ (64 - t)) (2 ^ t), Nat.mul_mod_mul_right]

theorem wval_shr {xs : List Nat} (h : WDig xs) (s t : Nat) : wval (xs.drop s) / 2 ^ t = wval xs / 2 ^ (64 * s + t) := by
  rw [Nat.pow_add, ← Nat.div_div_eq_div_mul, Nat.pow_mul]
  congr 1
  have hv := wval_drop xs s
  have hl := wval_lt h s
  rw [hv, show (2 : Nat) ^ 64 = 18446744073709551616 from rfl, Nat.add_mul_div_left _ _ (wpow_pos s), Nat.div_eq_of_lt hl, Nat.zero_add]

set_option maxRecDepth 100000 in
set_option maxHeartbeats 3200000 in
theorem shr_w (w : World) (u : Value) (z : Int) (m k : Nat) (hz : (k : Int) = min (max z 0) 1048576) (hu : InW w u m) :
    Calls Tryz.prog 55 #[u, .int .i64 z] w fun e w' => ∃ r, e = .returned r ∧ NewW w.heap.size w' r (m / 2 ^ k) ∧ Below w.heap.size w w' := by
  obtain ⟨ga, ba, oa, ca, xs, rfl, rA, dA, vA, lA⟩ := hu
  obtain ⟨la, hla⟩ : ∃ la, la = xs.length := ⟨_, rfl⟩
  have hroom := rA.room
  rw [← hla] at lA hroom ⊢
  obtain ⟨s, hs⟩ : ∃ s, s = k / 64 := ⟨_, rfl⟩
  obtain ⟨t, ht⟩ : ∃ t, t = k % 64 := ⟨_, rfl⟩
  have CW := hide (fun w => wp_any z k s t w hz hs ht)
  have ht64 : t < 64 := by omega
  have hke : k = 64 * s + t := by omega
  have hval : wval (xs.drop s) / 2 ^ t = m / 2 ^ k := by rw [wval_shr dA, ← hke, vA]
  have HVL := hide hval
  have HLA := hide hla
  by_cases h0 : la ≤ s
  · have h0i : (la : Int) ≤ (s : Int) := by omega
    have hz0 : Hid (m / 2 ^ k = 0) := by
      show _ = _
      rw [← hval, List.drop_eq_nil_of_le (by omega), show wval [] = 0 from rfl, Nat.zero_div]
    clear hla hs ht hke hz hval vA
    go_enter Tryz.func55, Tryz.ntmps55
    go_wp2_with fail
    refine (unhide CW _).mono ?_
    rintro e w2 ⟨rfl, rfl⟩
    clear CW
    go_wp2
    go_ret
    exact ⟨_, rfl, by rw [unhide hz0]; exact newW_nil _ _, Below.refl _ _⟩
  · have h0i : ¬ (la : Int) ≤ (s : Int) := by omega
    obtain rfl := rA.head (by omega)
    obtain ⟨M, hM⟩ : ∃ M, la = s + M := ⟨la - s, by omega⟩
    have hMs : la - s = M := by omega
    have hcs : ¬ ca = s := by omega
    have hsi : 0 ≤ (s : Int) ∧ (s : Int) ≤ (la : Int) := by omega
    obtain ⟨cc, hcc⟩ : ∃ cc, cc = ca - s := ⟨_, rfl⟩
    have rD := rA.dropS (s := s) (by omega)
    rw [← hcc] at rD
    have hcc2 : ca - s = cc := hcc.symm
    have dD := wDig_drop dA s
    have hdl : (xs.drop s).length = M := by simp; omega
    obtain ⟨t2, ht2⟩ : ∃ t2, t2 = 64 - t := ⟨_, rfl⟩
    have et2 : (64 : Int) - (t : Int) = (t2 : Int) := by omega
    have HT2 := hide ht2
    have hp0 : 0 < 2 ^ t := Nat.pow_pos (by omega)
    have hp64 : 2 ^ t < 18446744073709551616 := by
      have := Nat.pow_le_pow_right (n := 2) (by omega) (by omega : t ≤ 63)
      omega
    have HP64 := hide hp64
    have hMb : M ≤ 1073741824 := by omega
    clear hla hs ht hke hz hval vA ht2 hM hcc hp64 rA hroom dA
    generalize xs.drop s = os at *
    have HDL := hide hdl
    clear hdl
    go_enter Tryz.func55, Tryz.ntmps55
    go_wp2_with fail
    refine (unhide CW _).mono ?_
    rintro e w2 ⟨rfl, rfl⟩
    clear CW
    go_wp2_with fail
    refine (copyOf_any _ _ ba (oa + s) cc M os (unhide HDL) (by omega) rD).mono ?_
    rintro e w3 ⟨rfl, k3, b3⟩
    go_wp2
    go_loopw [8, 9] (fun c i wr => ∃ (q r cy : Nat) (zs : List Nat), q ≤ M ∧ c = .int .u64 (cy : Int) ∧ i = .int .i64 ((q : Int) - 1) ∧ cy < 18446744073709551616 ∧ zs.length = M ∧ Blk wr w2.heap.size zs ∧ Hid (cy = r * 2 ^ t2) ∧ Hid (WDivAt os zs (2 ^ t) q r) ∧ Below w2.heap.size w2 wr)
      (fun _ i _ => (intOf i + 1).toNat)
    case atStart => exact ⟨M, 0, 0, os, Nat.le_refl _, rfl, rfl, by omega, unhide HDL, k3, by show 0 = 0 * _; rw [Nat.zero_mul], by rw [← unhide HDL]; exact wdiv_start dD hp0, b3⟩
    case round =>
      obtain ⟨q, r, cy, zs, hq, rfl, rfl, hcy, hzl, hBlk, hCy, hAt, hnx⟩ := hrel
      by_cases h1 : q = 0
      · subst h1
        obtain ⟨e1, _⟩ := wdiv_end hAt.out
        rw [unhide HVL] at e1
        have hd := hAt.out.2.1
        have HE := hide e1
        clear e1 hAt hCy
        go_wp2_with fail
        refine (trim_blk (B := w2.heap.size) hzl (by omega) (Nat.le_refl _) hBlk hd).mono ?_
        rintro e w6 ⟨v, rfl, hv, rfl⟩
        rw [unhide HE] at hv
        go_wp2
        go_ret
        exact ⟨v, rfl, hv, hnx⟩
      · obtain ⟨j, rfl⟩ : ∃ j, q = j + 1 := ⟨q - 1, by omega⟩
        have ej : ((j + 1 : Nat) : Int) - 1 = (j : Int) := by omega
        rw [ej]
        obtain ⟨c, hc⟩ : ∃ c : Nat, c = zs.getD j 0 := ⟨_, rfl⟩
        have cr : wr.cell? ⟨w2.heap.size, j, none⟩ = some (.int .u64 (c : Int)) := by rw [hc]; exact hBlk.cell j (by omega)
        have fr := hBlk.frozen j
        have hc64 : c < 18446744073709551616 := by rw [hc]; exact hAt.out.2.1 j
        obtain ⟨Q, hQ⟩ : ∃ Q, Q = (18446744073709551616 * r + c) / 2 ^ t := ⟨_, rfl⟩
        obtain ⟨R, hR⟩ : ∃ R, R = (18446744073709551616 * r + c) % 2 ^ t := ⟨_, rfl⟩
        obtain ⟨H2, hq64⟩ := wdiv_step hAt.out (by rw [unhide HDL]; omega) (unhide HP64) hc hQ hR
        obtain ⟨f1, f2, f3⟩ := down_word hc64 ht64 hAt.out.2.2.1
        rw [← unhide HT2, ← hCy.out, ← hQ] at f1
        rw [← unhide HT2, ← hR] at f3
        have H2 := hide H2
        obtain ⟨a, ha⟩ : ∃ a, a = c / 2 ^ t := ⟨_, rfl⟩
        have es := shr_eq c t
        rw [← ha] at es f1
        have ha64 : a < 18446744073709551616 := by rw [ha]; exact Nat.lt_of_le_of_lt (Nat.div_le_self _ _) hc64
        have eo := bits_or_u64_nat a cy ha64 hcy
        rw [f1] at eo
        have el := shl_mod c t2
        obtain ⟨c2, hc2⟩ : ∃ c2, c2 = c * 2 ^ t2 % 18446744073709551616 := ⟨_, rfl⟩
        rw [← hc2] at el f3
        have hc2b : c2 < 18446744073709551616 := by rw [hc2]; exact Nat.mod_lt _ (by omega)
        have HF3 := hide f3
        clear hc hQ hR f1 f2 f3 ha hc2 hAt hCy
        go_wp2
        exact ⟨⟨j, R, c2, zs.set j Q, by omega, rfl, by go_num, hc2b, by simpa using hzl, hBlk.set j Q, HF3, H2, hnx.setCell (Nat.le_refl _) _⟩, by simp [intOf]⟩

end Go.Proofs.YtpcfghnenhnlpaaGreatDoor

/- Split of limb. -/
namespace Go.Proofs.YtpcfghnenhnlpaaGreatDoor
open Go.RowKit

theorem InW.drew {w : World} {v : Value} {n : Nat} (h : InW w v n) : InW w.drew v n := by
  obtain ⟨ga, b, o, cap, xs, rfl, hr, hd, hv, hl⟩ := h
  exact ⟨ga, b, o, cap, xs, rfl, hr.drew, hd, hv, hl⟩
theorem in_len0 (w : World) (ga : Option Addr) (cap : Nat) : InW w (.slice ga 0 cap) 0 := ⟨ga, 0, 0, cap, [], rfl, Rep.nil _ _ _ _ _, wDig_nil, rfl, by simp⟩

theorem in_zero {w : World} {ga : Option Addr} {cap n : Nat} (h : InW w (.slice ga 0 cap) n) : n = 0 := by
  obtain ⟨ga2, b, o, cap2, xs, he, _, _, hv, _⟩ := h
  have hl : xs.length = 0 := by injection he with _ h2 _; exact h2.symm
  obtain rfl : xs = [] := List.length_eq_zero_iff.1 hl
  exact hv.symm

/-- What Split leaves. -/
def SplitDone (w : World) (LO HI : Nat) (e : Ending) (w' : World) : Prop := ∃ lo hi B1 M1 B2 M2, e = .returned (.tuple #[lo, hi]) ∧ NewB B1 M1 w' lo LO ∧ NewB B2 M2 w' hi HI ∧ w.heap.size ≤ B1 ∧ w.heap.size ≤ B2 ∧ M1 ≤ w'.heap.size ∧ M2 ≤ w'.heap.size ∧ (M1 ≤ B2 ∨ M2 ≤ B1) ∧ Below w.heap.size w w'

set_option maxRecDepth 100000 in
set_option maxHeartbeats 3200000 in
theorem split_w (w : World) (u : Value) (z : Int) (m k : Nat) (hz : (k : Int) = min (max z 0) 16384) (hu : InW w u m) :
    Calls Tryz.prog 141 #[u, .int .i64 z] w (SplitDone w (m % 18446744073709551616 ^ k) (m / 18446744073709551616 ^ k)) := by
  have CW := hide (fun w => within_lim z 16384 k w hz)
  obtain ⟨ga, ba, oa, ca, xs, rfl, rA, dA, vA, lA⟩ := hu
  obtain ⟨la, hla⟩ : ∃ la, la = xs.length := ⟨_, rfl⟩
  have hroom := rA.room
  rw [← hla] at lA hroom ⊢
  obtain ⟨s, hs⟩ : ∃ s, s = min k la := ⟨_, rfl⟩
  have hmin : min (k : Int) (la : Int) = (s : Int) := by omega
  have hv := wval_drop xs s
  have hl := wval_lt dA s
  have hvLo : wval (xs.take s) = m % 18446744073709551616 ^ k := by
    by_cases h : k ≤ la
    · obtain rfl : s = k := by omega
      rw [← vA, hv, Nat.add_mul_mod_self_left, Nat.mod_eq_of_lt hl]
    · have h1 := pow_up (wval_lt_pow dA) (q := k) (by omega)
      rw [List.take_of_length_le (by omega), vA, Nat.mod_eq_of_lt (by rw [← vA]; exact h1)]
  have hvHi : wval (xs.drop s) = m / 18446744073709551616 ^ k := by
    by_cases h : k ≤ la
    · obtain rfl : s = k := by omega
      rw [← vA, hv, Nat.add_mul_div_left _ _ (wpow_pos s), Nat.div_eq_of_lt hl, Nat.zero_add]
    · have h1 := pow_up (wval_lt_pow dA) (q := k) (by omega)
      rw [List.drop_eq_nil_of_le (by omega), Nat.div_eq_of_lt (by rw [← vA]; exact h1)]
      rfl
  have hsla : s ≤ la := by omega
  generalize m % 18446744073709551616 ^ k = LO at *
  generalize m / 18446744073709551616 ^ k = HI at *
  have iLo : InW w (.slice ga s ca) LO := ⟨ga, ba, oa, ca, xs.take s, by rw [List.length_take, Nat.min_eq_left (by omega)], rA.take s (by omega), wDig_take dA s, hvLo, by simp; omega⟩
  have hHi : ∀ ga2 c2, (ga = some ⟨ba, oa, none⟩ → s < la → ga2 = some ⟨ba, oa + s, none⟩ ∧ c2 = ca - s) → InW w (.slice ga2 (la - s) c2) HI := fun ga2 c2 h => by
    by_cases h0 : s < la
    · have hg := rA.head (by omega)
      obtain ⟨rfl, rfl⟩ := h hg h0
      subst hg
      exact ⟨_, ba, oa + s, _, xs.drop s, by rw [List.length_drop, hla], rA.dropS (by omega), wDig_drop dA s, hvHi, by simp; omega⟩
    · have e : la - s = 0 := by omega
      rw [List.drop_eq_nil_of_le (by omega)] at hvHi
      have hH0 : HI = 0 := hvHi.symm
      rw [e, hH0]
      exact in_len0 _ _ _
  have hsi : 0 ≤ (s : Int) ∧ (s : Int) ≤ (la : Int) := by omega
  have hsi2 : 0 ≤ (s : Int) ∧ (s : Int) ≤ (ca : Int) := by omega
  have hnil : 0 < la → ga = some ⟨ba, oa, none⟩ := fun h => rA.head (by omega)
  have hlt : s < la → ¬ ca = s := fun h => by omega
  obtain ⟨M, hM⟩ : ∃ M, la - s = M := ⟨_, rfl⟩
  rw [hM] at hHi
  obtain ⟨cc, hcc⟩ : ∃ cc, ca - s = cc := ⟨_, rfl⟩
  clear hv hl hvLo hvHi hs hla vA rA dA hz
  have bl := Below.refl w.heap.size w
  cases ga with
  | none =>
    obtain rfl : la = 0 := by
      refine Nat.eq_zero_of_not_pos fun h => ?_
      have := hnil h
      cases this
    obtain rfl : s = 0 := by omega
    obtain rfl : M = 0 := by omega
    have hmin0 : min (k : Int) 0 = 0 := by omega
    obtain rfl : HI = 0 := in_zero (hHi none 0 (fun _ h => absurd h (by omega)))
    obtain rfl : LO = 0 := in_zero iLo
    have T1 : Hid True := trivial
    clear hnil hlt hHi iLo hmin hsi hsi2 hM hcc hroom
    go_enter Tryz.func141, Tryz.ntmps141
    go_wp2_with fail
    refine (unhide CW _).mono ?_
    rintro e w1 ⟨rfl, rfl⟩
    clear CW
    go_wp2
    go_region_with (first
        | (go_at_call 46; clear T1; refine (norm_w _ _ 0 ?_).mono ?_; exact in_len0 _ _ _; rintro e wL ⟨lo, rfl, nlo, bL⟩; have nlo := nlo.born; have bl := (by exact bstep bl.drew bL : Below w1.heap.size w1 wL))
        | (go_at_call 46; refine (norm_w _ _ 0 ?_).mono ?_; exact in_len0 _ _ _; rintro e wH ⟨hi, rfl, nhi, bH⟩; have nhi := nhi.born; have nlo := nlo.next bH; have bl := (by exact bstep bl bH : Below w1.heap.size w1 wH)))
    all_goals
      go_wp2
      go_ret2
      first
        | exact ⟨lo, hi, _, _, _, _, rfl, nlo, nhi, Nat.le_refl _, bL.size, bH.size, Nat.le_refl _, Or.inl (Nat.le_refl _), bl⟩
        | exact ⟨hi, lo, _, _, _, _, rfl, nhi, nlo, bL.size, Nat.le_refl _, Nat.le_refl _, bH.size, Or.inr (Nat.le_refl _), bl⟩
  | some x =>
    by_cases h0 : la = 0
    · subst h0
      by_cases hc0 : ca = 0
      · subst hc0
        obtain rfl : s = 0 := by omega
        obtain rfl : M = 0 := by omega
        have hmin0 : min (k : Int) 0 = 0 := by omega
        obtain rfl : HI = 0 := in_zero (hHi none 0 (fun _ h => absurd h (by omega)))
        obtain rfl : LO = 0 := in_zero iLo
        have T1 : Hid True := trivial
        clear hnil hlt hHi iLo hmin hsi hsi2 hM hcc hroom
        go_enter Tryz.func141, Tryz.ntmps141
        go_wp2_with fail
        refine (unhide CW _).mono ?_
        rintro e w1 ⟨rfl, rfl⟩
        clear CW
        go_wp2
        go_region_with (first
            | (go_at_call 46; clear T1; refine (norm_w _ _ 0 ?_).mono ?_; exact in_len0 _ _ _; rintro e wL ⟨lo, rfl, nlo, bL⟩; have nlo := nlo.born; have bl := (by exact bstep bl.drew bL : Below w1.heap.size w1 wL))
            | (go_at_call 46; refine (norm_w _ _ 0 ?_).mono ?_; exact in_len0 _ _ _; rintro e wH ⟨hi, rfl, nhi, bH⟩; have nhi := nhi.born; have nlo := nlo.next bH; have bl := (by exact bstep bl bH : Below w1.heap.size w1 wH)))
        all_goals
          go_wp2
          go_ret2
          first
            | exact ⟨lo, hi, _, _, _, _, rfl, nlo, nhi, Nat.le_refl _, bL.size, bH.size, Nat.le_refl _, Or.inl (Nat.le_refl _), bl⟩
            | exact ⟨hi, lo, _, _, _, _, rfl, nhi, nlo, bL.size, Nat.le_refl _, Nat.le_refl _, bH.size, Or.inr (Nat.le_refl _), bl⟩
      · skip
        obtain rfl : s = 0 := by omega
        obtain rfl : M = 0 := by omega
        have hmin0 : min (k : Int) 0 = 0 := by omega
        obtain rfl : HI = 0 := in_zero (hHi none 0 (fun _ h => absurd h (by omega)))
        obtain rfl : LO = 0 := in_zero iLo
        have T1 : Hid True := trivial
        clear hnil hlt hHi iLo hmin hsi hsi2 hM hcc hroom
        go_enter Tryz.func141, Tryz.ntmps141
        go_wp2_with fail
        refine (unhide CW _).mono ?_
        rintro e w1 ⟨rfl, rfl⟩
        clear CW
        go_wp2
        go_region_with (first
            | (go_at_call 46; clear T1; refine (norm_w _ _ 0 ?_).mono ?_; exact in_len0 _ _ _; rintro e wL ⟨lo, rfl, nlo, bL⟩; have nlo := nlo.born; have bl := (by exact bstep bl.drew bL : Below w1.heap.size w1 wL))
            | (go_at_call 46; refine (norm_w _ _ 0 ?_).mono ?_; exact in_len0 _ _ _; rintro e wH ⟨hi, rfl, nhi, bH⟩; have nhi := nhi.born; have nlo := nlo.next bH; have bl := (by exact bstep bl bH : Below w1.heap.size w1 wH)))
        all_goals
          go_wp2
          go_ret2
          first
            | exact ⟨lo, hi, _, _, _, _, rfl, nlo, nhi, Nat.le_refl _, bL.size, bH.size, Nat.le_refl _, Or.inl (Nat.le_refl _), bl⟩
            | exact ⟨hi, lo, _, _, _, _, rfl, nhi, nlo, bL.size, Nat.le_refl _, Nat.le_refl _, bH.size, Or.inr (Nat.le_refl _), bl⟩
    · cases hnil (by omega)
      by_cases hcs : ca = s
      · subst hcs
        obtain rfl : cc = 0 := by omega
        have iHi := hHi (some ⟨ba, oa, none⟩) 0 (fun _ h => absurd rfl (hlt h))
        have hMz : ca - ca = 0 := by omega
        clear hcc
        clear hnil hlt hHi
        go_enter Tryz.func141, Tryz.ntmps141
        go_wp2_with fail
        refine (unhide CW _).mono ?_
        rintro e w1 ⟨rfl, rfl⟩
        clear CW
        go_wp2
        go_region_with (first
            | (go_at_call_of 46 (Value.slice (some ⟨ba, oa, none⟩) ca ca); refine (norm_w _ _ LO ?_).mono ?_; (first | exact iLo.drew | exact iLo); rintro e wL ⟨lo, rfl, nlo, bL⟩; have nlo := nlo.born; (try have nhi := nhi.next bL); (try have iHi := (by first | exact iHi.drew.next bL | exact iHi.next bL : InW wL (Value.slice (some ⟨ba, oa, none⟩) M 0) HI)); have bl := (by first | exact bstep bl.drew bL | exact bstep bl bL : Below w1.heap.size w1 wL))
            | (go_at_call_of 46 (Value.slice (some ⟨ba, oa, none⟩) M 0); refine (norm_w _ _ HI ?_).mono ?_; (first | exact iHi.drew | exact iHi); rintro e wH ⟨hi, rfl, nhi, bH⟩; have nhi := nhi.born; (try have nlo := nlo.next bH); (try have iLo := (by first | exact iLo.drew.next bH | exact iLo.next bH : InW wH (Value.slice (some ⟨ba, oa, none⟩) ca ca) LO)); have bl := (by first | exact bstep bl.drew bH | exact bstep bl bH : Below w1.heap.size w1 wH)))
        all_goals
          go_wp2
          go_ret2
          first
            | exact ⟨lo, hi, _, _, _, _, rfl, nlo, nhi, Nat.le_refl _, bL.size, bH.size, Nat.le_refl _, Or.inl (Nat.le_refl _), bl⟩
            | exact ⟨lo, hi, _, _, _, _, rfl, nlo, nhi, bH.size, Nat.le_refl _, Nat.le_refl _, bL.size, Or.inr (Nat.le_refl _), bl⟩
      · have iHi := hHi (some ⟨ba, oa + s, none⟩) cc (fun _ _ => ⟨rfl, hcc.symm⟩)
        clear hnil hlt hHi
        go_enter Tryz.func141, Tryz.ntmps141
        go_wp2_with fail
        refine (unhide CW _).mono ?_
        rintro e w1 ⟨rfl, rfl⟩
        clear CW
        go_wp2
        go_region_with (first
            | (go_at_call_of 46 (Value.slice (some ⟨ba, oa, none⟩) s ca); refine (norm_w _ _ LO ?_).mono ?_; (first | exact iLo.drew | exact iLo); rintro e wL ⟨lo, rfl, nlo, bL⟩; have nlo := nlo.born; (try have nhi := nhi.next bL); (try have iHi := (by first | exact iHi.drew.next bL | exact iHi.next bL : InW wL (Value.slice (some ⟨ba, oa + s, none⟩) M cc) HI)); have bl := (by first | exact bstep bl.drew bL | exact bstep bl bL : Below w1.heap.size w1 wL))
            | (go_at_call_of 46 (Value.slice (some ⟨ba, oa + s, none⟩) M cc); refine (norm_w _ _ HI ?_).mono ?_; (first | exact iHi.drew | exact iHi); rintro e wH ⟨hi, rfl, nhi, bH⟩; have nhi := nhi.born; (try have nlo := nlo.next bH); (try have iLo := (by first | exact iLo.drew.next bH | exact iLo.next bH : InW wH (Value.slice (some ⟨ba, oa, none⟩) s ca) LO)); have bl := (by first | exact bstep bl.drew bH | exact bstep bl bH : Below w1.heap.size w1 wH)))
        all_goals
          go_wp2
          go_ret2
          first
            | exact ⟨lo, hi, _, _, _, _, rfl, nlo, nhi, Nat.le_refl _, bL.size, bH.size, Nat.le_refl _, Or.inl (Nat.le_refl _), bl⟩
            | exact ⟨lo, hi, _, _, _, _, rfl, nlo, nhi, bH.size, Nat.le_refl _, Nat.le_refl _, bL.size, Or.inr (Nat.le_refl _), bl⟩

end Go.Proofs.YtpcfghnenhnlpaaGreatDoor

/- The reference's transform, by its definition. -/
namespace Go.Proofs.YtpcfghnenhnlpaaGreatDoor
open Go.RowKit

end Go.Proofs.YtpcfghnenhnlpaaGreatDoor

/- The reference's Reds and Conv. -/
namespace Go.Proofs.YtpcfghnenhnlpaaGreatDoor
open Go.RowKit

/-- Sums of products x b[j] from the place i on, going round; then of all. -/
def cvIn (p m x : Nat) (ys : List Nat) (i : Nat) (zs : List Nat) : Nat → List Nat
  | 0 => zs
  | j + 1 => (cvIn p m x ys i zs j).set ((i + j) % m) (ad p ((cvIn p m x ys i zs j).getD ((i + j) % m) 0) (ml p x (ys.getD j 0)))
def cvOut (p m : Nat) (xs ys : List Nat) : Nat → List Nat
  | 0 => List.replicate m 0
  | i + 1 => cvIn p m (xs.getD i 0) ys i (cvOut p m xs ys i) ys.length
def convR (p m : Nat) (xs ys : List Nat) : List Nat := cvOut p m xs ys xs.length
theorem cvIn_length (p m x : Nat) (ys : List Nat) (i : Nat) (zs : List Nat) : ∀ j, (cvIn p m x ys i zs j).length = zs.length
  | 0 => rfl
  | j + 1 => by unfold cvIn; rw [List.length_set, cvIn_length p m x ys i zs j]
theorem cvOut_length (p m : Nat) (xs ys : List Nat) : ∀ i, (cvOut p m xs ys i).length = m
  | 0 => by simp [cvOut]
  | i + 1 => by unfold cvOut; rw [cvIn_length, cvOut_length p m xs ys i]
theorem cvIn_cg {p m x : Nat} {ys zs : List Nat} {i : Nat} (hm : 0 < m) (hl : zs.length = m) (k : Nat) (hk : k < m) : ∀ j, Cg p ((cvIn p m x ys i zs j).getD k 0 : Int) ((zs.getD k 0 : Int) + sI j fun t => if (i + t) % m = k then (x : Int) * rowI ys t else 0)
  | 0 => Cg.of_eq (by show _ = (zs.getD k 0 : Int) + 0; rw [Int.add_zero]; rfl)
  | j + 1 => by
    have ih := cvIn_cg (p := p) (x := x) (ys := ys) (i := i) hm hl k hk j
    have hlen : (cvIn p m x ys i zs j).length = m := by rw [cvIn_length, hl]
    have hq : (i + j) % m < m := Nat.mod_lt _ hm
    show Cg p (((cvIn p m x ys i zs j).set ((i + j) % m) (ad p ((cvIn p m x ys i zs j).getD ((i + j) % m) 0) (ml p x (ys.getD j 0)))).getD k 0 : Int) ((zs.getD k 0 : Int) + ((sI j fun t => if (i + t) % m = k then (x : Int) * rowI ys t else 0) + if (i + j) % m = k then (x : Int) * rowI ys j else 0))
    by_cases e : (i + j) % m = k
    · rw [if_pos e, e]
      have : ((cvIn p m x ys i zs j).set k (ad p ((cvIn p m x ys i zs j).getD k 0) (ml p x (ys.getD j 0)))).getD k 0 = ad p ((cvIn p m x ys i zs j).getD k 0) (ml p x (ys.getD j 0)) := by
        simp [hlen, hk]
      rw [this]
      refine (ad_cg p _ _).trans (((ih.add (ml_cg p _ _))).trans (Cg.of_eq ?_))
      show _ + _ + (x : Int) * ((ys.getD j 0 : Nat) : Int) = _
      unfold rowI
      omega
    · rw [if_neg e]
      have : ((cvIn p m x ys i zs j).set ((i + j) % m) (ad p ((cvIn p m x ys i zs j).getD ((i + j) % m) 0) (ml p x (ys.getD j 0)))).getD k 0 = (cvIn p m x ys i zs j).getD k 0 := by
        simp [List.getElem?_set_ne e]
      rw [this, Int.add_zero]
      exact ih
theorem cvOut_cg {p m : Nat} {xs ys : List Nat} (hm : 0 < m) (k : Nat) (hk : k < m) : ∀ i, Cg p ((cvOut p m xs ys i).getD k 0 : Int) (sI i fun s => sI ys.length fun t => if (s + t) % m = k then rowI xs s * rowI ys t else 0)
  | 0 => Cg.of_eq (by show (((List.replicate m 0).getD k 0 : Nat) : Int) = 0; simp [hk])
  | i + 1 => by
    refine (cvIn_cg hm (cvOut_length p m xs ys i) k hk ys.length).trans ?_
    exact (cvOut_cg hm k hk i).add (Cg.refl _ _)
theorem cvIn_lt {p m x : Nat} {ys zs : List Nat} {i : Nat} (hp : 0 < p) (hz : ∀ k, zs.getD k 0 < p) : ∀ j k, (cvIn p m x ys i zs j).getD k 0 < p
  | 0, k => hz k
  | j + 1, k => by
    unfold cvIn
    have ih := cvIn_lt (m := m) (x := x) (ys := ys) (i := i) hp hz j
    generalize (i + j) % m = q
    rw [List.getD_eq_getElem?_getD, List.getElem?_set]
    split
    · split
      · exact Nat.mod_lt _ hp
      · exact hp
    · have := ih k
      rwa [List.getD_eq_getElem?_getD] at this
theorem cvOut_lt {p m : Nat} {xs ys : List Nat} (hp : 0 < p) : ∀ i k, (cvOut p m xs ys i).getD k 0 < p
  | 0, k => by
    show (List.replicate m 0).getD k 0 < p
    rw [List.getD_eq_getElem?_getD, List.getElem?_replicate]
    split <;> exact hp
  | i + 1, k => cvIn_lt hp (cvOut_lt hp i) ys.length k

end Go.Proofs.YtpcfghnenhnlpaaGreatDoor

/- Package conv: Carry. -/
namespace Go.Proofs.YtpcfghnenhnlpaaGreatDoor
open Go.RowKit

/-- A row of three words at each place. -/
def tri (g k : Nat) : Value := .slice (some ⟨g, k * 3, none⟩) 3 3
def tris (g : Nat) : Nat → List Value
  | 0 => []
  | k + 1 => tris g k ++ [tri g k]
theorem tris_len (g : Nat) : ∀ k, (tris g k).length = k
  | 0 => rfl
  | k + 1 => by simp [tris, tris_len g k]
theorem tris_at (g : Nat) : ∀ {q k : Nat}, k < q → (tris g q).getD k undef = tri g k
  | 0, _, h => absurd h (by omega)
  | q + 1, k, h => by
    have hl := tris_len g q
    unfold tris
    rw [List.getD_eq_getElem?_getD]
    by_cases hk : k < q
    · rw [List.getElem?_append_left (by omega), ← List.getD_eq_getElem?_getD]
      exact tris_at g hk
    · obtain rfl : k = q := by omega
      rw [List.getElem?_append_right (by omega), hl, Nat.sub_self]
      rfl
/-- The first k are set. -/
theorem tris_set (g q k : Nat) (h : k < q) : (tris g k ++ nils (q - k)).set k (tri g k) = tris g (k + 1) ++ nils (q - (k + 1)) := by
  have hl := tris_len g k
  rw [List.set_append_right _ _ (by omega), hl, Nat.sub_self]
  obtain ⟨m, hm⟩ : ∃ m, q - k = m + 1 := ⟨q - k - 1, by omega⟩
  have hm2 : q - (k + 1) = m := by omega
  rw [hm, hm2]
  show tris g k ++ (List.replicate (m + 1) _).set 0 (tri g k) = (tris g k ++ [tri g k]) ++ List.replicate m _
  rw [List.replicate_succ, List.set_cons_zero, List.append_assoc]
  rfl
theorem tri_in {w : World} {g q k : Nat} {T : Nat → Nat} (h : TriAt w g q T) (hk : k < q) : InW w (tri g k) (T k) := by
  obtain ⟨t0, t1, t2, a0, a1, a2, e, c0, c1, c2⟩ := h k hk
  refine ⟨_, g, k * 3, 3, [t0, t1, t2], rfl, ⟨fun _ => rfl, by simp, fun j hj => ?_⟩, ?_, by rw [v3_val]; exact e, by simp⟩
  · have hj : j < 3 := hj
    match j, hj with
    | 0, _ => exact c0
    | 1, _ => exact c1
    | 2, _ => exact c2
  · intro j
    match j with
    | 0 => exact a0
    | 1 => exact a1
    | 2 => exact a2
    | j + 3 => exact Nat.zero_lt_succ _
/-- The numbers, in a row. -/
def rowOf (T : Nat → Nat) (q : Nat) : List Nat := (List.range q).map T
theorem rowOf_len (T : Nat → Nat) (q : Nat) : (rowOf T q).length = q := by simp [rowOf]
theorem rowOf_at (T : Nat → Nat) {q k : Nat} (h : k < q) : (rowOf T q).getD k 0 = T k := by simp [rowOf, h]
theorem jsum_rowOf (T : Nat → Nat) {q : Nat} : ∀ k, k ≤ q → jsum 1 (rowOf T q) k = sN k fun i => T i * 18446744073709551616 ^ i
  | 0, _ => rfl
  | k + 1, h => by
    show jsum 1 (rowOf T q) k + _ = sN k _ + T k * 18446744073709551616 ^ k
    rw [jsum_rowOf T k (by omega), rowOf_at T (by omega), Nat.one_mul, Nat.mul_comm]
theorem tri_parts {w : World} {g gp q : Nat} {T : Nat → Nat} (h : TriAt w g q T) (hv : VBl w gp (tris g q) 30) : Parts w (some ⟨gp, 0, none⟩) gp 0 (tris g q) (rowOf T q) := by
  have hl := tris_len g q
  refine ⟨fun _ => rfl, by rw [rowOf_len, hl], fun j hj => ?_, fun j hj => ?_⟩
  · rw [Nat.zero_add]; exact hv.cell j hj
  · rw [hl] at hj
    rw [tris_at g hj, rowOf_at T hj]
    exact tri_in h hj

set_option maxRecDepth 100000 in
set_option maxHeartbeats 3200000 in
theorem carry_any (w : World) (ga : Option Addr) (g C q : Nat) (T : Nat → Nat) (hq : q ≤ 1048576) (hg : 0 < q → ga = some ⟨g, 0, none⟩) (hq2 : q ≤ 65536) (hC : q ≤ C) (hT : TriAt w g q T) :
    Calls Tryz.prog 123 #[.slice ga q C] w fun e w' => ∃ r, e = .returned r ∧ NewW w.heap.size w' r (sN q fun k => T k * 18446744073709551616 ^ k) ∧ Below w.heap.size w w' := by
  have hmk := make_nats q hq
  have HT : Hid (∀ W, Below w.heap.size w W → TriAt W g q T) := fun W b => hT.next b
  have hv0 : VBl (w.alloc (.cells (nils q).toArray 30)) w.heap.size (tris g 0 ++ nils (q - 0)) 30 := heap_alloc_new w _
  have bl : Below w.heap.size w (w.alloc (.cells (nils q).toArray 30)) := (Below.refl _ _).alloc (Nat.le_refl _) _
  obtain ⟨W1, hW1⟩ : ∃ W1, w.alloc (.cells (nils q).toArray 30) = W1 := ⟨_, rfl⟩
  rw [hW1] at hv0 bl
  obtain ⟨G, hG⟩ : ∃ G, w.heap.size = G := ⟨_, rfl⟩
  rw [hG] at hv0
  have HG := hide hG
  have HV := hide hv0
  have BL := hide bl
  clear hT hv0 bl
  go_enter Tryz.func123, Tryz.ntmps123
  go_wp2
  clear hW1 hG hmk
  go_loopw [10] (fun iv wr => ∃ k : Nat, k ≤ q ∧ iv = .int .i64 (k : Int) ∧ VBl wr G (tris g k ++ nils (q - k)) 30 ∧ Below w.heap.size w wr) (fun iv _ => q - (intOf iv).toNat)
  case atStart => exact ⟨0, Nat.zero_le _, rfl, unhide HV, unhide BL⟩
  case round =>
    clear HV BL
    obtain ⟨k, hk, rfl, hV, hb⟩ := hrel
    by_cases h1 : k < q
    · obtain rfl := hg (by omega)
      have hl : (tris g k ++ nils (q - k)).length = q := by rw [List.length_append, tris_len]; simp [nils]; omega
      have cv := hV.cell k (by omega)
      have fv := hV.frozen k
      have V2 := hide (hV.set k (tri g k))
      rw [tris_set g q k h1] at V2
      have B2 := hide (hb.setCell (p := ⟨G, k, none⟩) (Nat.le_of_eq (unhide HG)) (tri g k))
      have hmm : Hid (q - (k + 1) < q - k) := by show _ < _; omega
      unfold tri at V2 B2
      clear hV hb hl
      go_wp2
      go_roundw
      case rel => exact ⟨k + 1, by omega, by go_num, unhide V2, unhide B2⟩
      case measure => simp [intOf]; have := unhide hmm; omega
    · obtain rfl : k = q := by omega
      have hV' : VBl wr G (tris g k) 30 := by
        have := hV
        rw [Nat.sub_self] at this
        simpa [nils] using this
      have hP := tri_parts (unhide HT _ hb) hV'
      have CJ := hide (join_k wr (some ⟨G, 0, none⟩) G 0 k k 1 1 (tris g k) (rowOf T k) (tris_len g k) hq2 (by decide) hP)
      rw [jsum_rowOf T k (Nat.le_refl _)] at CJ
      have BL := hide hb
      have SZ := hide hb.size
      clear hV hV' hP hb
      obtain ⟨S, hS⟩ : ∃ S, S = sN k fun i => T i * 18446744073709551616 ^ i := ⟨_, rfl⟩
      rw [← hS] at CJ
      have HS := hide hS
      clear hS
      go_wp2_with fail
      refine (unhide CJ).mono ?_
      rintro e w2 ⟨r, rfl, nr, b⟩
      have bl := bstep (unhide BL) b
      have nr := nr.mono (unhide SZ)
      clear CJ b
      go_wp2
      go_ret
      exact ⟨r, rfl, by rw [← unhide HS]; exact nr, bl⟩

end Go.Proofs.YtpcfghnenhnlpaaGreatDoor
