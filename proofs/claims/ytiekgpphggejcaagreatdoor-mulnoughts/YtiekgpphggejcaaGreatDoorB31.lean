/- addTo and takeFrom of limb: a row is added to a piece of another, or taken from it. -/
import Derived.Test.YtiekgpphggejcaaGreatDoorB14
import Derived.Test.YtiekgpphggejcaaGreatDoorB29
import Derived.Deep.QuietTactic
import Derived.BigQuiet
import Derived.WalkSmall
import Derived.Test.YtiekgpphggejcaaGreatDoorB9
namespace Go.Proofs.YtiekgpphggejcaaGreatDoor
open Go.RowKit

/-- k words of bs are added at o; c is carried. -/
def WAddAt (z0 zs bs : List Nat) (o k c : Nat) : Prop := zs.length = z0.length ∧ WDig zs ∧ c ≤ 1 ∧ wval zs + 18446744073709551616 ^ (o + k) * c = wval z0 + 18446744073709551616 ^ o * wval (bs.take k)
theorem wadd_start {z0 : List Nat} (h : WDig z0) (bs : List Nat) (o : Nat) : WAddAt z0 z0 bs o 0 0 := ⟨rfl, h, by omega, by simp [wval]⟩
theorem wadd_step {z0 zs bs : List Nat} {o k c r b : Nat} (h : WAddAt z0 zs bs o k c) (hk : o + k < zs.length) (hr : r = zs.getD (o + k) 0) (hb : b = bs.getD k 0) (hb64 : b < 18446744073709551616) :
    WAddAt z0 (zs.set (o + k) ((r + b + c) % 18446744073709551616)) bs o (k + 1) ((r + b + c) / 18446744073709551616) := by
  obtain ⟨h1, h2, h3, h4⟩ := h
  have hr64 : r < 18446744073709551616 := by rw [hr]; exact h2 _
  refine ⟨by simpa using h1, wDig_set h2 hk (Nat.mod_lt _ (by omega)), by omega, ?_⟩
  have hs := wval_set zs (o + k) ((r + b + c) % 18446744073709551616) hk
  rw [← hr] at hs
  rw [wval_take_succ, ← hb, Nat.mul_add, ← Nat.mul_assoc, ← Nat.pow_add, ← Nat.add_assoc o k 1, Nat.pow_succ, Nat.mul_assoc]
  have e : 18446744073709551616 ^ (o + k) * ((r + b + c) % 18446744073709551616) + 18446744073709551616 ^ (o + k) * (18446744073709551616 * ((r + b + c) / 18446744073709551616)) = 18446744073709551616 ^ (o + k) * r + 18446744073709551616 ^ (o + k) * b + 18446744073709551616 ^ (o + k) * c := by
    rw [← Nat.mul_add, Nat.mod_add_div, Nat.mul_add, Nat.mul_add]
  omega
theorem wadd_room {z0 zs bs : List Nat} {o k c N : Nat} (h : WAddAt z0 zs bs o k c) (hk : bs.length ≤ k) (hc : 0 < c) (hr : wval z0 + 18446744073709551616 ^ o * wval bs < 18446744073709551616 ^ N) : o + k < N := by
  obtain ⟨_, _, h3, h4⟩ := h
  rw [wval_take_ge _ _ hk, show c = 1 from by omega, Nat.mul_one] at h4
  refine Nat.lt_of_not_le fun hle => ?_
  have := Nat.pow_le_pow_right (n := 18446744073709551616) (by omega) hle
  omega
theorem wadd_end {z0 zs bs : List Nat} {o k c : Nat} (h : WAddAt z0 zs bs o k c) (hk : bs.length ≤ k) (hc : c = 0) : wval zs = wval z0 + 18446744073709551616 ^ o * wval bs := by
  obtain ⟨_, _, _, h4⟩ := h
  rw [wval_take_ge _ _ hk, hc, Nat.mul_zero] at h4
  exact h4

/-- k words of bs are taken at o; c is borrowed. -/
def WSubAt (z0 zs bs : List Nat) (o k c : Nat) : Prop := zs.length = z0.length ∧ WDig zs ∧ c ≤ 1 ∧ wval zs + 18446744073709551616 ^ o * wval (bs.take k) = wval z0 + 18446744073709551616 ^ (o + k) * c
theorem wsub_start {z0 : List Nat} (h : WDig z0) (bs : List Nat) (o : Nat) : WSubAt z0 z0 bs o 0 0 := ⟨rfl, h, by omega, by simp [wval]⟩
theorem wsub_step {z0 zs bs : List Nat} {o k c r b : Nat} (h : WSubAt z0 zs bs o k c) (hk : o + k < zs.length) (hr : r = zs.getD (o + k) 0) (hb : b = bs.getD k 0) (hb64 : b < 18446744073709551616) :
    WSubAt z0 (zs.set (o + k) ((r + 18446744073709551616 - b - c) % 18446744073709551616)) bs o (k + 1) (if r < b + c then 1 else 0) := by
  obtain ⟨h1, h2, h3, h4⟩ := h
  have hr64 : r < 18446744073709551616 := by rw [hr]; exact h2 _
  refine ⟨by simpa using h1, wDig_set h2 hk (Nat.mod_lt _ (by omega)), by split <;> omega, ?_⟩
  have hs := wval_set zs (o + k) ((r + 18446744073709551616 - b - c) % 18446744073709551616) hk
  rw [← hr] at hs
  rw [wval_take_succ, ← hb, Nat.mul_add, ← Nat.mul_assoc, ← Nat.pow_add, ← Nat.add_assoc o k 1, Nat.pow_succ, Nat.mul_assoc]
  have hd : (r + 18446744073709551616 - b - c) % 18446744073709551616 + b + c = r + 18446744073709551616 * (if r < b + c then 1 else 0) := by split <;> omega
  have e : 18446744073709551616 ^ (o + k) * ((r + 18446744073709551616 - b - c) % 18446744073709551616) + 18446744073709551616 ^ (o + k) * b + 18446744073709551616 ^ (o + k) * c = 18446744073709551616 ^ (o + k) * r + 18446744073709551616 ^ (o + k) * (18446744073709551616 * (if r < b + c then 1 else 0)) := by
    rw [← Nat.mul_add, ← Nat.mul_add, hd, Nat.mul_add]
  omega
theorem wsub_end {z0 zs bs : List Nat} {o k : Nat} (h : WSubAt z0 zs bs o k 0) (hk : bs.length ≤ k) : wval zs + 18446744073709551616 ^ o * wval bs = wval z0 := by
  obtain ⟨_, _, _, h4⟩ := h
  rw [wval_take_ge _ _ hk, Nat.mul_zero] at h4
  exact h4
theorem wsub_less {z0 zs bs : List Nat} {o k : Nat} (h : WSubAt z0 zs bs o k 1) (hk : bs.length ≤ k) (hN : z0.length ≤ o + k) : wval z0 < 18446744073709551616 ^ o * wval bs := by
  obtain ⟨h1, h2, _, h4⟩ := h
  rw [wval_take_ge _ _ hk, Nat.mul_one] at h4
  have := wval_lt_pow h2
  have := Nat.pow_le_pow_right (n := 18446744073709551616) (by omega) hN
  rw [h1] at *
  omega

theorem word_carry (c : Nat) (h : c ≤ 1) : (c = 0 ∧ c = 0) ∨ (c ≠ 0 ∧ c = 1) := by omega

set_option maxRecDepth 100000 in
set_option maxHeartbeats 3200000 in
theorem addTo_any (w : World) (g o n cap bb ob cb lb : Nat) (gb : Option Addr) (z0 bs : List Nat) (hz : z0.length = o + n) (hbl : bs.length = lb) (hlb : lb ≤ n) (hn : o + n ≤ 1099511627776)
    (hZ : Blk w g z0) (dz : WDig z0) (hB : Rep w gb bb ob cb bs) (db : WDig bs) (hne : 0 < bs.length → bb ≠ g) (hroom : wval z0 + 18446744073709551616 ^ o * wval bs < 18446744073709551616 ^ (o + n)) :
    Calls Tryz.prog 96 #[.slice (some ⟨g, o, none⟩) n cap, .slice gb lb cb] w fun e w' => e = .returned (.tuple #[]) ∧ ∃ zs, zs.length = o + n ∧ WDig zs ∧ Blk w' g zs ∧ wval zs = wval z0 + 18446744073709551616 ^ o * wval bs ∧ w.grownBy w' (some g) := by
  have HROOM := hide hroom
  have HNE := hide hne
  clear hroom hne
  go_enter Tryz.func96, Tryz.ntmps96
  go_wp2
  go_loopw [4, 10] (fun c i wr => ∃ (k cy : Nat) (zs : List Nat), k ≤ lb ∧ c = .int .u64 (cy : Int) ∧ i = .int .i64 (k : Int) ∧ cy ≤ 1 ∧ Blk wr g zs ∧ Hid (WAddAt z0 zs bs o k cy) ∧ Rep wr gb bb ob cb bs ∧ w.grownBy wr (some g))
    (fun _ i _ => lb - (intOf i).toNat)
  case atStart => exact ⟨0, 0, z0, Nat.zero_le _, rfl, rfl, by omega, hZ, wadd_start dz bs o, hB, grown_refl _ _⟩
  case round =>
    obtain ⟨k, cy, zs, hk, rfl, rfl, hcy, hBlk, hAt, hRb, hG⟩ := hrel
    have hzl : zs.length = o + n := by rw [hAt.out.1]; exact hz
    by_cases h1 : k < lb
    · obtain rfl := hRb.head (by omega)
      obtain ⟨b, hb⟩ : ∃ b : Nat, b = bs.getD k 0 := ⟨_, rfl⟩
      have hb64 : b < 18446744073709551616 := by rw [hb]; exact db k
      have cb : wr.cell? ⟨bb, ob + k, none⟩ = some (.int .u64 (b : Int)) := by rw [hb]; exact hRb.cell k (by omega)
      obtain ⟨r, hr⟩ : ∃ r : Nat, r = zs.getD (o + k) 0 := ⟨_, rfl⟩
      have cr : wr.cell? ⟨g, o + k, none⟩ = some (.int .u64 (r : Int)) := by rw [hr]; exact hBlk.cell (o + k) (by omega)
      have fr := hBlk.frozen (o + k)
      have H2 := hide (wadd_step hAt.out (by omega) hr hb hb64)
      have CA := hide (fun w => word_add r b cy cy w (word_carry cy hcy))
      have hc2 := (unhide H2).2.2.1
      generalize (r + b + cy) % 18446744073709551616 = d at *
      generalize (r + b + cy) / 18446744073709551616 = c2 at *
      clear hr hb
      go_wp2_with fail
      refine (unhide CA _).mono ?_
      rintro e w1 ⟨rfl, rfl⟩
      go_wp2
      exact ⟨⟨k + 1, c2, _, by omega, rfl, by go_num, hc2, hBlk.set (o + k) d, H2, hRb.but (grown_set _ _ _ _) (unhide HNE), grown_trans hG (grown_set _ _ _ _)⟩, by simp [intOf]; omega⟩
    · obtain rfl : k = lb := by omega
      go_wp2
      go_loopw [4, 7] (fun c i wi => ∃ (q cy : Nat) (zs : List Nat), k ≤ q ∧ q ≤ n ∧ c = .int .u64 (cy : Int) ∧ i = .int .i64 (q : Int) ∧ cy ≤ 1 ∧ Blk wi g zs ∧ Hid (WAddAt z0 zs bs o q cy) ∧ w.grownBy wi (some g))
        (fun _ i _ => n - (intOf i).toNat)
      case atStart => exact ⟨k, cy, zs, Nat.le_refl _, hlb, rfl, rfl, hcy, hBlk, hAt, hG⟩
      case round =>
        obtain ⟨q, cy, zs, hq1, hq2, rfl, rfl, hcy, hBlk, hAt, hG⟩ := hrel
        have hzl : zs.length = o + n := by rw [hAt.out.1]; exact hz
        by_cases h2 : cy = 0
        · subst h2
          have hv := wadd_end hAt.out (by omega) rfl
          have HV := hide hv
          have HD := hide hAt.out.2.1
          clear hv hAt
          go_wp2
          go_end0
          exact ⟨rfl, zs, hzl, unhide HD, hBlk, unhide HV, hG⟩
        · obtain rfl : cy = 1 := by omega
          have hqn := wadd_room hAt.out (by omega) (by omega) (unhide HROOM)
          obtain ⟨r, hr⟩ : ∃ r : Nat, r = zs.getD (o + q) 0 := ⟨_, rfl⟩
          have cr : wr.cell? ⟨g, o + q, none⟩ = some (.int .u64 (r : Int)) := by rw [hr]; exact hBlk.cell (o + q) (by omega)
          have fr := hBlk.frozen (o + q)
          have H2 := hide (wadd_step (b := 0) hAt.out (by omega) hr (by rw [getD_ge (by omega)]) (by omega))
          have CA := hide (fun w => word_add r 0 1 1 w (Or.inr ⟨by omega, rfl⟩))
          have hc2 := (unhide H2).2.2.1
          generalize (r + 0 + 1) % 18446744073709551616 = d at *
          generalize (r + 0 + 1) / 18446744073709551616 = c2 at *
          have hqn2 : q < n := by omega
          clear hr hqn
          go_wp2_with fail
          refine (unhide CA _).mono ?_
          rintro e w1 ⟨rfl, rfl⟩
          go_wp2
          exact ⟨⟨q + 1, c2, _, by omega, by omega, rfl, by go_num, hc2, hBlk.set (o + q) d, H2, grown_trans hG (grown_set _ _ _ _)⟩, by simp [intOf]; omega⟩

/-- What takeFrom leaves: the row, and whether there was too little. -/
def TakeDone (w : World) (g o n : Nat) (z0 bs : List Nat) (e : Ending) (w' : World) : Prop := ∃ (c : Nat) (zs : List Nat), e = .returned (.int .u64 (c : Int)) ∧ c ≤ 1 ∧ zs.length = o + n ∧ WDig zs ∧ Blk w' g zs ∧ w.grownBy w' (some g) ∧
  ((c = 0 ∧ wval zs + 18446744073709551616 ^ o * wval bs = wval z0) ∨ (c = 1 ∧ wval z0 < 18446744073709551616 ^ o * wval bs))
theorem take_mk {w w' : World} {g o n : Nat} {z0 bs : List Nat} (c : Nat) (zs : List Nat) (h1 : c ≤ 1) (h2 : zs.length = o + n) (h3 : WDig zs) (h4 : Blk w' g zs) (h5 : w.grownBy w' (some g)) (h6 : (c = 0 ∧ wval zs + 18446744073709551616 ^ o * wval bs = wval z0) ∨ (c = 1 ∧ wval z0 < 18446744073709551616 ^ o * wval bs)) :
    TakeDone w g o n z0 bs (.returned (.int .u64 (c : Int))) w' := ⟨c, zs, rfl, h1, h2, h3, h4, h5, h6⟩

set_option maxRecDepth 100000 in
set_option maxHeartbeats 3200000 in
theorem takeFrom_any (w : World) (g o n cap bb ob cb lb : Nat) (gb : Option Addr) (z0 bs : List Nat) (hz : z0.length = o + n) (hbl : bs.length = lb) (hlb : lb ≤ n) (hn : o + n ≤ 1099511627776)
    (hZ : Blk w g z0) (dz : WDig z0) (hB : Rep w gb bb ob cb bs) (db : WDig bs) (hne : 0 < bs.length → bb ≠ g) :
    Calls Tryz.prog 124 #[.slice (some ⟨g, o, none⟩) n cap, .slice gb lb cb] w (TakeDone w g o n z0 bs) := by
  have HNE := hide hne
  clear hne
  go_enter Tryz.func124, Tryz.ntmps124
  go_wp2
  go_loopw [4, 10] (fun c i wr => ∃ (k cy : Nat) (zs : List Nat), k ≤ lb ∧ c = .int .u64 (cy : Int) ∧ i = .int .i64 (k : Int) ∧ cy ≤ 1 ∧ Blk wr g zs ∧ Hid (WSubAt z0 zs bs o k cy) ∧ Rep wr gb bb ob cb bs ∧ w.grownBy wr (some g))
    (fun _ i _ => lb - (intOf i).toNat)
  case atStart => exact ⟨0, 0, z0, Nat.zero_le _, rfl, rfl, by omega, hZ, wsub_start dz bs o, hB, grown_refl _ _⟩
  case round =>
    obtain ⟨k, cy, zs, hk, rfl, rfl, hcy, hBlk, hAt, hRb, hG⟩ := hrel
    have hzl : zs.length = o + n := by rw [hAt.out.1]; exact hz
    by_cases h1 : k < lb
    · obtain rfl := hRb.head (by omega)
      obtain ⟨b, hb⟩ : ∃ b : Nat, b = bs.getD k 0 := ⟨_, rfl⟩
      have hb64 : b < 18446744073709551616 := by rw [hb]; exact db k
      have cb : wr.cell? ⟨bb, ob + k, none⟩ = some (.int .u64 (b : Int)) := by rw [hb]; exact hRb.cell k (by omega)
      obtain ⟨r, hr⟩ : ∃ r : Nat, r = zs.getD (o + k) 0 := ⟨_, rfl⟩
      have cr : wr.cell? ⟨g, o + k, none⟩ = some (.int .u64 (r : Int)) := by rw [hr]; exact hBlk.cell (o + k) (by omega)
      have fr := hBlk.frozen (o + k)
      have H2 := hide (wsub_step hAt.out (by omega) hr hb hb64)
      have CA := hide (fun w => word_sub r b cy cy w (word_carry cy hcy))
      have hc2 := (unhide H2).2.2.1
      generalize (r + 18446744073709551616 - b - cy) % 18446744073709551616 = d at *
      generalize (if r < b + cy then 1 else 0) = c2 at *
      clear hr hb
      go_wp2_with fail
      refine (unhide CA _).mono ?_
      rintro e w1 ⟨rfl, rfl⟩
      go_wp2
      exact ⟨⟨k + 1, c2, _, by omega, rfl, by go_num, hc2, hBlk.set (o + k) d, H2, hRb.but (grown_set _ _ _ _) (unhide HNE), grown_trans hG (grown_set _ _ _ _)⟩, by simp [intOf]; omega⟩
    · obtain rfl : k = lb := by omega
      go_wp2
      go_loopw [4, 7] (fun c i wi => ∃ (q cy : Nat) (zs : List Nat), k ≤ q ∧ q ≤ n ∧ c = .int .u64 (cy : Int) ∧ i = .int .i64 (q : Int) ∧ cy ≤ 1 ∧ Blk wi g zs ∧ Hid (WSubAt z0 zs bs o q cy) ∧ w.grownBy wi (some g))
        (fun _ i _ => n - (intOf i).toNat)
      case atStart => exact ⟨k, cy, zs, Nat.le_refl _, hlb, rfl, rfl, hcy, hBlk, hAt, hG⟩
      case round =>
        obtain ⟨q, cy, zs, hq1, hq2, rfl, rfl, hcy, hBlk, hAt, hG⟩ := hrel
        have hzl : zs.length = o + n := by rw [hAt.out.1]; exact hz
        by_cases h2 : cy = 0
        · subst h2
          have hv := wsub_end hAt.out (by omega)
          have HV := hide hv
          have HD := hide hAt.out.2.1
          clear hv hAt
          by_cases h3 : q < n
          · go_wp2
            go_ret
            exact take_mk 0 zs (by omega) hzl (unhide HD) hBlk hG (Or.inl ⟨rfl, unhide HV⟩)
          · go_wp2
            go_ret
            exact take_mk 0 zs (by omega) hzl (unhide HD) hBlk hG (Or.inl ⟨rfl, unhide HV⟩)
        · obtain rfl : cy = 1 := by omega
          by_cases h3 : q < n
          · obtain ⟨r, hr⟩ : ∃ r : Nat, r = zs.getD (o + q) 0 := ⟨_, rfl⟩
            have cr : wr.cell? ⟨g, o + q, none⟩ = some (.int .u64 (r : Int)) := by rw [hr]; exact hBlk.cell (o + q) (by omega)
            have fr := hBlk.frozen (o + q)
            have H2 := hide (wsub_step (b := 0) hAt.out (by omega) hr (by rw [getD_ge (by omega)]) (by omega))
            have CA := hide (fun w => word_sub r 0 1 1 w (Or.inr ⟨by omega, rfl⟩))
            have hc2 := (unhide H2).2.2.1
            generalize (r + 18446744073709551616 - 0 - 1) % 18446744073709551616 = d at *
            generalize (if r < 0 + 1 then 1 else 0) = c2 at *
            clear hr
            go_wp2_with fail
            refine (unhide CA _).mono ?_
            rintro e w1 ⟨rfl, rfl⟩
            go_wp2
            exact ⟨⟨q + 1, c2, _, by omega, by omega, rfl, by go_num, hc2, hBlk.set (o + q) d, H2, grown_trans hG (grown_set _ _ _ _)⟩, by simp [intOf]; omega⟩
          · have hv := wsub_less hAt.out (by omega) (by omega)
            have HV := hide hv
            have HD := hide hAt.out.2.1
            clear hv hAt
            go_wp2
            go_ret
            exact take_mk 1 zs (by omega) hzl (unhide HD) hBlk hG (Or.inr ⟨rfl, unhide HV⟩)

end Go.Proofs.YtiekgpphggejcaaGreatDoor

/- Norm, One, Add, Sub of limb. -/
namespace Go.Proofs.YtiekgpphggejcaaGreatDoor
open Go.RowKit

/-- trim of a row that came in. -/
theorem trim_in {w : World} {v : Value} {n : Nat} (h : InW w v n) : ∃ ga b o cap us, Rep w ga b o cap us ∧ WCan us ∧ wval us = n ∧ us.length ≤ 1073741824 ∧ Calls Tryz.prog 88 #[v] w fun e w' => e = .returned (.slice ga us.length cap) ∧ w' = w := by
  obtain ⟨ga, b, o, cap, xs, rfl, hr, hd, hv, hl⟩ := h
  have hle := nlen_le xs xs.length
  exact ⟨ga, b, o, cap, nrm xs, hr.take _ hle, nrm_wcan hd, by rw [nrm_wval]; exact hv, by rw [nrm_length]; omega, trim_any w ga b o cap _ _ xs rfl (by omega) hr (nrm_length xs)⟩

theorem wval_pad (us : List Nat) (j : Nat) : wval (us ++ List.replicate j 0) = wval us := by rw [wval_append, (wzeros j).2, Nat.mul_zero, Nat.add_zero]
theorem wDig_pad {us : List Nat} (h : WDig us) (j : Nat) : WDig (us ++ List.replicate j 0) := wDig_append h (wzeros j).1
theorem add_room {us vs : List Nat} {N : Nat} (h1 : WDig us) (h2 : WDig vs) (hN : N = max us.length vs.length + 1) : wval us + wval vs < 18446744073709551616 ^ N := by
  have a := pow_up (wval_lt_pow h1) (q := N - 1) (by omega)
  have b := pow_up (wval_lt_pow h2) (q := N - 1) (by omega)
  have := pow_sum a b
  rwa [show N - 1 + 1 = N from by omega] at this

/-- trim of a row in a block of its own. -/
theorem trim_blk {B : Nat} {w : World} {g N : Nat} {zs : List Nat} (hl : zs.length = N) (hN : N ≤ 1099511627776) (hg : B ≤ g) (hk : Blk w g zs) (hd : WDig zs) :
    Calls Tryz.prog 88 #[.slice (some ⟨g, 0, none⟩) N N] w fun e w' => ∃ v, e = .returned v ∧ NewW B w v (wval zs) ∧ w' = w := by
  subst hl
  have hr := hk.rep 0 zs.length zs.length (by omega) (Nat.le_refl _)
  rw [List.drop_zero, List.take_length] at hr
  refine (trim_any w _ g 0 _ _ _ zs rfl hN hr rfl).mono ?_
  rintro e w' ⟨rfl, rfl⟩
  exact ⟨_, rfl, newW_blk hg hk hd hN, rfl⟩

set_option maxRecDepth 100000 in
set_option maxHeartbeats 1600000 in
theorem add_w (w : World) (u v : Value) (m n : Nat) (hu : InW w u m) (hv : InW w v n) :
    Calls Tryz.prog 101 #[u, v] w fun e w' => ∃ r, e = .returned r ∧ NewW w.heap.size w' r (m + n) ∧ Below w.heap.size w w' := by
  obtain ⟨ga, ba, oa, ca, us, rA, cA, vA, lA, CA⟩ := trim_in hu
  obtain ⟨gb, bb, ob, cb, vs, rB, cB, vB, lB, CB⟩ := trim_in hv
  obtain ⟨N, hN⟩ : ∃ N, N = max us.length vs.length + 1 := ⟨_, rfl⟩
  have hroom := add_room cA.1 cB.1 hN
  have hbN : vs.length ≤ N := by omega
  have hNb : N ≤ 1073741825 := by omega
  have CA := hide CA
  have CB := hide CB
  have HN := hide hN
  have hzl : (us ++ List.replicate (N - us.length) 0).length = 0 + N := by simp; omega
  obtain ⟨la, hla⟩ : ∃ la, la = us.length := ⟨_, rfl⟩
  obtain ⟨lb, hlb⟩ : ∃ lb, lb = vs.length := ⟨_, rfl⟩
  rw [← hla] at CA lA HN hzl
  rw [← hlb] at CB lB HN hbN
  have HLA := hide hla
  have HLB := hide hlb
  have HR := hide hroom
  clear hu hv hN hroom hla hlb
  go_enter Tryz.func101, Tryz.ntmps101
  go_wp2_with fail
  refine (unhide CA).mono ?_
  rintro e w1 ⟨rfl, rfl⟩
  go_wp2_with fail
  refine (unhide CB).mono ?_
  rintro e w2 ⟨rfl, rfl⟩
  clear CA CB
  go_wp2_with fail
  refine (wider_any _ ga gb ba oa ca cb la lb N us (unhide HLA).symm (by omega) (by omega) rA (unhide HN)).mono ?_
  rintro e w3 ⟨rfl, k3, b3⟩
  go_wp2_with fail
  refine (addTo_any _ w2.heap.size 0 N N bb ob cb lb gb _ vs hzl (unhide HLB).symm hbN (by omega) k3 (wDig_pad cA.1 _) (rB.next b3) cB.1 (fun h => by have := rB.lt h; omega) (by rw [wval_pad, Nat.pow_zero, Nat.one_mul, Nat.zero_add]; exact unhide HR)).mono ?_
  rintro e w4 ⟨rfl, zs, hl, hd, k4, hv4, g4⟩
  rw [wval_pad, Nat.pow_zero, Nat.one_mul, vA, vB] at hv4
  have b4 := below_grown b3 g4 (Nat.le_refl _) b3.size
  have HV := hide hv4
  clear hv4 g4 k3
  go_wp2_with fail
  refine (trim_blk (B := w2.heap.size) (by omega) (by omega) (Nat.le_refl _) k4 hd).mono ?_
  rintro e w5 ⟨r, rfl, hr, rfl⟩
  rw [unhide HV] at hr
  go_wp2
  go_ret
  exact ⟨r, rfl, hr, b4⟩

/-- What Sub and SubMul leave. -/
def SubDone (w : World) (m n : Nat) (e : Ending) (w' : World) : Prop := Below w.heap.size w w' ∧ ((n ≤ m ∧ ∃ r, e = .returned (.tuple #[r, .bool true]) ∧ NewW w.heap.size w' r (m - n)) ∨ (m < n ∧ e = .returned (.tuple #[.slice none 0 0, .bool false])))
theorem sub_no_mk {w w' : World} {m n : Nat} (hb : Below w.heap.size w w') (h : m < n) : SubDone w m n (.returned (.tuple #[.slice none 0 0, .bool false])) w' := ⟨hb, Or.inr ⟨h, rfl⟩⟩
theorem sub_yes_mk {w w' : World} {m n : Nat} {r : Value} (hb : Below w.heap.size w w') (h : n ≤ m) (hr : NewW w.heap.size w' r (m - n)) : SubDone w m n (.returned (.tuple #[r, .bool true])) w' := ⟨hb, Or.inl ⟨h, r, rfl, hr⟩⟩

set_option maxRecDepth 100000 in
set_option maxHeartbeats 1600000 in
theorem sub_w (w : World) (u v : Value) (m n : Nat) (hu : InW w u m) (hv : InW w v n) :
    Calls Tryz.prog 102 #[u, v] w (SubDone w m n) := by
  obtain ⟨ga, ba, oa, ca, us, rA, cA, vA, lA, CA⟩ := trim_in hu
  obtain ⟨gb, bb, ob, cb, vs, rB, cB, vB, lB, CB⟩ := trim_in hv
  have hlt : us.length < vs.length → m < n := fun h => by have := wlen_lt cA.1 cB h; omega
  have CA := hide CA
  have CB := hide CB
  have HLT := hide hlt
  obtain ⟨la, hla⟩ : ∃ la, la = us.length := ⟨_, rfl⟩
  obtain ⟨lb, hlb⟩ : ∃ lb, lb = vs.length := ⟨_, rfl⟩
  rw [← hla] at CA lA HLT
  rw [← hlb] at CB lB HLT
  have HLA := hide hla
  have HLB := hide hlb
  clear hu hv hlt hla hlb
  go_enter Tryz.func102, Tryz.ntmps102
  go_wp2_with fail
  refine (unhide CA).mono ?_
  rintro e w1 ⟨rfl, rfl⟩
  go_wp2_with fail
  refine (unhide CB).mono ?_
  rintro e w2 ⟨rfl, rfl⟩
  clear CA CB
  by_cases h1 : la < lb
  · go_wp2
    go_ret2
    exact sub_no_mk (Below.refl _ _) (unhide HLT h1)
  · go_wp2_with fail
    refine (copyOf_any _ ga ba oa ca la us (unhide HLA).symm (by omega) rA).mono ?_
    rintro e w3 ⟨rfl, k3, b3⟩
    go_wp2_with fail
    refine (takeFrom_any _ w2.heap.size 0 la la bb ob cb lb gb us vs (by rw [← unhide HLA]; omega) (unhide HLB).symm (by omega) (by omega) k3 cA.1 (rB.next b3) cB.1 (fun h => by have := rB.lt h; omega)).mono ?_
    rintro e w4 ⟨c, zs, rfl, hc1, hl, hd, k4, g4, hres⟩
    rw [Nat.pow_zero, Nat.one_mul, vA, vB] at hres
    have b4 := below_grown b3 g4 (Nat.le_refl _) b3.size
    clear g4 k3
    rcases hres with ⟨rfl, hv4⟩ | ⟨rfl, hv4⟩
    · have HV := hide hv4
      clear hv4
      go_wp2_with fail
      refine (trim_blk (B := w2.heap.size) (by omega) (by omega) (Nat.le_refl _) k4 hd).mono ?_
      rintro e w5 ⟨r, rfl, hr, rfl⟩
      have hle : n ≤ m := by have := unhide HV; omega
      have he : wval zs = m - n := by have := unhide HV; omega
      rw [he] at hr
      clear he
      go_wp2
      go_ret2
      exact sub_yes_mk b4 hle hr
    · go_wp2
      go_ret2
      exact sub_no_mk b4 hv4

set_option maxRecDepth 100000 in
set_option maxHeartbeats 1600000 in
theorem norm_w (w : World) (u : Value) (m : Nat) (hu : InW w u m) :
    Calls Tryz.prog 60 #[u] w fun e w' => ∃ r, e = .returned r ∧ NewW w.heap.size w' r m ∧ Below w.heap.size w w' := by
  obtain ⟨ga, ba, oa, ca, us, rA, cA, vA, lA, CA⟩ := trim_in hu
  have CA := hide CA
  obtain ⟨la, hla⟩ : ∃ la, la = us.length := ⟨_, rfl⟩
  rw [← hla] at CA lA
  have HLA := hide hla
  clear hu hla
  go_enter Tryz.func60, Tryz.ntmps60
  go_wp2_with fail
  refine (unhide CA).mono ?_
  rintro e w1 ⟨rfl, rfl⟩
  clear CA
  go_wp2_with fail
  refine (copyOf_any _ ga ba oa ca la us (unhide HLA).symm (by omega) rA).mono ?_
  rintro e w3 ⟨rfl, k3, b3⟩
  go_wp2
  go_ret
  refine ⟨_, rfl, ⟨us, cA, vA, Or.inr ⟨w1.heap.size, [], Nat.le_refl _, ?_, by rw [List.append_nil]; exact k3, by rw [← unhide HLA]; simp; omega⟩⟩, b3⟩
  rw [List.append_nil, ← unhide HLA]
  rfl

set_option maxRecDepth 100000 in
set_option maxHeartbeats 1600000 in
theorem one_w (w : World) (x : Nat) (hx : x < 18446744073709551616) :
    Calls Tryz.prog 59 #[.int .u64 (x : Int)] w fun e w' => ∃ r, e = .returned r ∧ NewW w.heap.size w' r x ∧ Below w.heap.size w w' := by
  have hk : Blk (w.alloc (.cells #[.int .u64 (x : Int)] 78)) w.heap.size [x] := heap_alloc_new w _
  have hb : Below w.heap.size w (w.alloc (.cells #[.int .u64 (x : Int)] 78)) := (Below.refl _ _).alloc (Nat.le_refl _) _
  have CT := hide (trim_blk (N := 1) rfl (by omega) (Nat.le_refl _) hk (wDig_one hx))
  have HB := hide hb
  rw [wval_one] at CT
  clear hk hb
  go_enter Tryz.func59, Tryz.ntmps59
  go_wp2_with fail
  refine (unhide CT).mono ?_
  rintro e w3 ⟨r, rfl, hr, rfl⟩
  go_wp2
  go_ret
  exact ⟨r, rfl, hr, unhide HB⟩

end Go.Proofs.YtiekgpphggejcaaGreatDoor

/- Plain mathematics of products by hand. Nothing of any program here. -/
namespace Go.Proofs.YtiekgpphggejcaaGreatDoor

/-- k words of bs times y are added from place o on; c is carried; all other words are as they were. -/
def SAt (z0 zs bs : List Nat) (y o k c : Nat) : Prop :=
  zs.length = z0.length ∧ WDig zs ∧ c < 18446744073709551616 ∧ wval zs + 18446744073709551616 ^ (o + k) * c = wval z0 + 18446744073709551616 ^ o * (y * wval (bs.take k)) ∧
    ∀ j, o + k ≤ j → zs.getD j 0 = z0.getD j 0
theorem s_start {z0 : List Nat} (h : WDig z0) (bs : List Nat) (y o : Nat) : SAt z0 z0 bs y o 0 0 := ⟨rfl, h, by omega, by simp [wval], fun _ _ => rfl⟩

/-- The product of two words, with two words more, has room in two words. -/
theorem s_parts {b y c r h0 l0 l1 c1 h1 d c2 c3 : Nat} (hb : b < 18446744073709551616) (hy : y < 18446744073709551616) (hc : c < 18446744073709551616) (hr : r < 18446744073709551616)
    (e0 : h0 = b * y / 18446744073709551616) (e1 : l0 = b * y % 18446744073709551616) (e2 : l1 = (l0 + c + 0) % 18446744073709551616) (e3 : c1 = (l0 + c + 0) / 18446744073709551616) (e4 : h1 = h0 + c1)
    (e5 : d = (r + l1 + 0) % 18446744073709551616) (e6 : c2 = (r + l1 + 0) / 18446744073709551616) (e7 : c3 = h1 + c2) :
    h1 < 18446744073709551616 ∧ c3 < 18446744073709551616 ∧ d < 18446744073709551616 ∧ d + 18446744073709551616 * c3 = r + b * y + c := by
  have hp : b * y ≤ 18446744073709551615 * 18446744073709551615 := Nat.mul_le_mul (by omega) (by omega)
  generalize b * y = p at *
  omega

theorem s_step {z0 zs bs : List Nat} {y o k c r b d c3 : Nat} (h : SAt z0 zs bs y o k c) (hk : o + k < zs.length) (hr : r = zs.getD (o + k) 0) (hb : b = bs.getD k 0)
    (hd : d < 18446744073709551616) (hc3 : c3 < 18446744073709551616) (he : d + 18446744073709551616 * c3 = r + b * y + c) : SAt z0 (zs.set (o + k) d) bs y o (k + 1) c3 := by
  obtain ⟨h1, h2, h3, h4, h5⟩ := h
  refine ⟨by simpa using h1, wDig_set h2 hk hd, hc3, ?_, fun j hj => ?_⟩
  · have hs := wval_set zs (o + k) d hk
    rw [← hr] at hs
    rw [wval_take_succ, ← hb, Nat.mul_add y, Nat.mul_left_comm y, Nat.mul_add, ← Nat.mul_assoc (18446744073709551616 ^ o) (18446744073709551616 ^ k), ← Nat.pow_add, ← Nat.add_assoc o k 1, Nat.pow_succ, Nat.mul_assoc (18446744073709551616 ^ (o + k))]
    have e : 18446744073709551616 ^ (o + k) * d + 18446744073709551616 ^ (o + k) * (18446744073709551616 * c3) = 18446744073709551616 ^ (o + k) * r + 18446744073709551616 ^ (o + k) * (y * b) + 18446744073709551616 ^ (o + k) * c := by
      rw [← Nat.mul_add, he, Nat.mul_add, Nat.mul_add, Nat.mul_comm b y]
    omega
  · rw [← h5 j (by omega)]
    simp [List.getD_eq_getElem?_getD, show ¬ o + k = j by omega]

/-- The words from place k on are noughts. -/
def Nought (zs : List Nat) (k : Nat) : Prop := ∀ j, k ≤ j → zs.getD j 0 = 0
theorem nought_all (n k : Nat) : Nought (List.replicate n 0) k := fun j _ => by simp [List.getD_eq_getElem?_getD, List.getElem?_replicate]; split <;> rfl
theorem wval_noughts : ∀ n, wval (List.replicate n 0) = 0
  | 0 => rfl
  | n + 1 => by rw [List.replicate_succ, wval, wval_noughts n]
theorem wDig_noughts (n : Nat) : WDig (List.replicate n 0) := fun j => by rw [nought_all n 0 j (by omega)]; omega

/-- What is carried is laid on top of what was added. -/
theorem s_top {z0 zs bs : List Nat} {y o k c : Nat} (h : SAt z0 zs bs y o k c) (hk : bs.length ≤ k) (hz : Nought z0 (o + k)) (ho : o + k < zs.length) :
    (zs.set (o + k) c).length = z0.length ∧ WDig (zs.set (o + k) c) ∧ wval (zs.set (o + k) c) = wval z0 + 18446744073709551616 ^ o * (y * wval bs) ∧ Nought (zs.set (o + k) c) (o + k + 1) := by
  obtain ⟨h1, h2, h3, h4, h5⟩ := h
  refine ⟨by simpa using h1, wDig_set h2 ho h3, ?_, fun j hj => ?_⟩
  · have hs := wval_set zs (o + k) c ho
    rw [h5 _ (Nat.le_refl _), hz _ (Nat.le_refl _), Nat.mul_zero] at hs
    rw [wval_take_ge _ _ hk] at h4
    omega
  · have : (zs.set (o + k) c).getD j 0 = zs.getD j 0 := by simp [List.getD_eq_getElem?_getD, show ¬ o + k = j by omega]
    rw [this, h5 j (by omega), hz j (by omega)]

/-- k words of bs are multiplied by xs, and summed. -/
def MRow (xs bs zs : List Nat) (N k : Nat) : Prop := zs.length = N ∧ WDig zs ∧ wval zs = wval xs * wval (bs.take k) ∧ Nought zs (k + xs.length)
theorem m_start (xs bs : List Nat) (N : Nat) : MRow xs bs (List.replicate N 0) N 0 := ⟨by simp, wDig_noughts _, by rw [wval_noughts]; simp [wval], nought_all _ _⟩
theorem m_step {xs bs z0 zs : List Nat} {N k c y : Nat} (h : MRow xs bs z0 N k) (hs : SAt z0 zs xs y k xs.length c) (hy : y = bs.getD k 0) (hk : k + xs.length < N) : MRow xs bs (zs.set (k + xs.length) c) N (k + 1) := by
  obtain ⟨h1, h2, h3, h4⟩ := h
  obtain ⟨t1, t2, t3, t4⟩ := s_top hs (Nat.le_refl _) h4 (by rw [hs.1, h1]; exact hk)
  refine ⟨by rw [t1, h1], t2, ?_, fun j hj => t4 j (by omega)⟩
  rw [t3, h3, wval_take_succ, ← hy, Nat.mul_add, Nat.mul_left_comm (wval xs), Nat.mul_comm (wval xs) y]

/-- The sum of the products of each two words, as far as k words are done; the sum of the squares. -/
def crs (xs : List Nat) : Nat → Nat
  | 0 => 0
  | k + 1 => crs xs k + 18446744073709551616 ^ (2 * k + 1) * (xs.getD k 0 * wval (xs.drop (k + 1)))
def sqs (xs : List Nat) : Nat → Nat
  | 0 => 0
  | k + 1 => sqs xs k + 18446744073709551616 ^ (2 * k) * (xs.getD k 0 * xs.getD k 0)
theorem wval_drop_one (xs : List Nat) (k : Nat) : wval (xs.drop k) = xs.getD k 0 + 18446744073709551616 * wval (xs.drop (k + 1)) := by
  by_cases h : k < xs.length
  · rw [List.drop_eq_getElem_cons h, wval, getD_lt h]
  · rw [List.drop_eq_nil_of_le (by omega), List.drop_eq_nil_of_le (by omega), getD_ge (by omega)]; simp [wval]
theorem sq_step (p B x v : Nat) : p * ((x + B * v) * (x + B * v)) = p * (x * x) + p * B * (x * v) + p * B * (x * v) + p * B * B * (v * v) := by
  have e : (x + B * v) * (x + B * v) = x * x + B * (x * v) + B * (x * v) + B * B * (v * v) := by
    rw [Nat.mul_add, Nat.add_mul, Nat.add_mul, Nat.mul_comm (B * v) x, Nat.mul_left_comm x B v, Nat.mul_assoc B v, Nat.mul_left_comm v B v, ← Nat.mul_assoc B B]
    omega
  rw [e, Nat.mul_add, Nat.mul_add, Nat.mul_add, ← Nat.mul_assoc p B (x * v), ← Nat.mul_assoc p (B * B), ← Nat.mul_assoc p B B]
theorem sum_help (c s t1 t2 t3 : Nat) : c + t1 + (c + t1) + (s + t3) + t2 = c + c + s + (t3 + t1 + t1 + t2) := by omega
theorem square_sum (xs : List Nat) : ∀ k, crs xs k + crs xs k + sqs xs k + 18446744073709551616 ^ (2 * k) * (wval (xs.drop k) * wval (xs.drop k)) = wval xs * wval xs
  | 0 => by simp [crs, sqs]
  | k + 1 => by
    rw [← square_sum xs k, wval_drop_one xs k, crs, sqs, sq_step, show 2 * (k + 1) = 2 * k + 1 + 1 from by omega, Nat.pow_succ, Nat.pow_succ]
    exact sum_help _ _ _ _ _
theorem square_is (xs : List Nat) (n : Nat) (h : xs.length ≤ n) : crs xs n + crs xs n + sqs xs n = wval xs * wval xs := by
  have := square_sum xs n
  rw [List.drop_eq_nil_of_le h] at this
  simpa [wval] using this

/-- As far as k words are done: the products of each two. -/
def CRow (xs zs : List Nat) (n k : Nat) : Prop := zs.length = 2 * n ∧ WDig zs ∧ wval zs = crs xs k ∧ Nought zs (k + n)
theorem c_start (xs : List Nat) (n : Nat) : CRow xs (List.replicate (2 * n) 0) n 0 := ⟨by simp, wDig_noughts _, by rw [wval_noughts]; rfl, nought_all _ _⟩
theorem c_step {xs z0 zs : List Nat} {n k c y : Nat} (h : CRow xs z0 n k) (hs : SAt z0 zs (xs.drop (k + 1)) y (2 * k + 1) (n - (k + 1)) c) (hy : y = xs.getD k 0) (hl : xs.length = n) (hk : k < n) : CRow xs (zs.set (k + n) c) n (k + 1) := by
  obtain ⟨h1, h2, h3, h4⟩ := h
  have e : 2 * k + 1 + (n - (k + 1)) = k + n := by omega
  obtain ⟨t1, t2, t3, t4⟩ := s_top hs (by simp; omega) (by rw [e]; exact h4) (by rw [hs.1, h1]; omega)
  rw [e] at t1 t2 t3 t4
  refine ⟨by rw [t1, h1], t2, ?_, fun j hj => t4 j (by omega)⟩
  rw [t3, h3, crs, ← hy]

/-- As far as k words are done: their squares. -/
def QRow (xs zs : List Nat) (n k : Nat) : Prop := zs.length = 2 * n ∧ WDig zs ∧ wval zs = sqs xs k ∧ Nought zs (2 * k)
theorem q_start (xs : List Nat) (n : Nat) : QRow xs (List.replicate (2 * n) 0) n 0 := ⟨by simp, wDig_noughts _, by rw [wval_noughts]; rfl, nought_all _ _⟩
theorem q_step {xs zs : List Nat} {n k x hi lo : Nat} (h : QRow xs zs n k) (hx : x = xs.getD k 0) (hk : k < n) (hh : hi < 18446744073709551616) (hl : lo < 18446744073709551616) (he : 18446744073709551616 * hi + lo = x * x) :
    QRow xs ((zs.set (2 * k + 1) hi).set (2 * k) lo) n (k + 1) := by
  obtain ⟨h1, h2, h3, h4⟩ := h
  have d1 := wDig_set h2 (k := 2 * k + 1) (by omega) hh
  refine ⟨by simpa using h1, wDig_set d1 (by simp; omega) hl, ?_, fun j hj => ?_⟩
  · have s1 := wval_set zs (2 * k + 1) hi (by omega)
    rw [h4 _ (by omega), Nat.mul_zero] at s1
    have s2 := wval_set (zs.set (2 * k + 1) hi) (2 * k) lo (by simp; omega)
    have : (zs.set (2 * k + 1) hi).getD (2 * k) 0 = zs.getD (2 * k) 0 := by simp [List.getD_eq_getElem?_getD]
    rw [this, h4 _ (by omega), Nat.mul_zero] at s2
    rw [sqs, ← hx, ← he, Nat.mul_add, ← Nat.mul_assoc, ← Nat.pow_succ]
    show _ = _ + (18446744073709551616 ^ (2 * k + 1) * hi + _)
    omega
  · have : ((zs.set (2 * k + 1) hi).set (2 * k) lo).getD j 0 = zs.getD j 0 := by simp [List.getD_eq_getElem?_getD, show ¬ 2 * k + 1 = j by omega, show ¬ 2 * k = j by omega]
    rw [this, h4 j (by omega)]

end Go.Proofs.YtiekgpphggejcaaGreatDoor

/- addTimes of school: a row times a word is added to a piece of another. -/
namespace Go.Proofs.YtiekgpphggejcaaGreatDoor
open Go.RowKit

set_option maxRecDepth 100000 in
set_option maxHeartbeats 3200000 in
theorem addTimes_any (w : World) (g o n cap bb ob cb lb y : Nat) (gb : Option Addr) (z0 bs : List Nat) (hz : z0.length = o + n) (hbl : bs.length = lb) (hlb : lb ≤ n) (hn : o + n ≤ 1099511627776) (hy : y < 18446744073709551616)
    (hZ : Blk w g z0) (dz : WDig z0) (hB : Rep w gb bb ob cb bs) (db : WDig bs) (hne : 0 < bs.length → bb ≠ g) :
    Calls Tryz.prog 90 #[.slice (some ⟨g, o, none⟩) n cap, .slice gb lb cb, .int .u64 (y : Int)] w fun e w' => ∃ (c : Nat) (zs : List Nat), e = .returned (.int .u64 (c : Int)) ∧ SAt z0 zs bs y o lb c ∧ Blk w' g zs ∧ w.grownBy w' (some g) := by
  have HNE := hide hne
  clear hne
  go_enter Tryz.func90, Tryz.ntmps90
  go_wp2
  go_loopw [6, 14] (fun c i wr => ∃ (k cy : Nat) (zs : List Nat), k ≤ lb ∧ c = .int .u64 (cy : Int) ∧ i = .int .i64 (k : Int) ∧ cy < 18446744073709551616 ∧ Blk wr g zs ∧ Hid (SAt z0 zs bs y o k cy) ∧ Rep wr gb bb ob cb bs ∧ w.grownBy wr (some g))
    (fun _ i _ => lb - (intOf i).toNat)
  case atStart => exact ⟨0, 0, z0, Nat.zero_le _, rfl, rfl, by omega, hZ, s_start dz bs y o, hB, grown_refl _ _⟩
  case round =>
    obtain ⟨k, cy, zs, hk, rfl, rfl, hcy, hBlk, hAt, hRb, hG⟩ := hrel
    have hzl : zs.length = o + n := by rw [hAt.out.1]; exact hz
    by_cases h1 : k < lb
    · obtain rfl := hRb.head (by omega)
      obtain ⟨b, hb⟩ : ∃ b : Nat, b = bs.getD k 0 := ⟨_, rfl⟩
      have hb64 : b < 18446744073709551616 := by rw [hb]; exact db k
      have cb : wr.cell? ⟨bb, ob + k, none⟩ = some (.int .u64 (b : Int)) := by rw [hb]; exact hRb.cell k (by omega)
      obtain ⟨r, hr⟩ : ∃ r : Nat, r = zs.getD (o + k) 0 := ⟨_, rfl⟩
      have hr64 : r < 18446744073709551616 := by rw [hr]; exact hAt.out.2.1 _
      have cr : wr.cell? ⟨g, o + k, none⟩ = some (.int .u64 (r : Int)) := by rw [hr]; exact hBlk.cell (o + k) (by omega)
      have fr := hBlk.frozen (o + k)
      obtain ⟨h0, e0⟩ : ∃ h0, h0 = b * y / 18446744073709551616 := ⟨_, rfl⟩
      obtain ⟨l0, e1⟩ : ∃ l0, l0 = b * y % 18446744073709551616 := ⟨_, rfl⟩
      obtain ⟨l1, e2⟩ : ∃ l1, l1 = (l0 + cy + 0) % 18446744073709551616 := ⟨_, rfl⟩
      obtain ⟨c1, e3⟩ : ∃ c1, c1 = (l0 + cy + 0) / 18446744073709551616 := ⟨_, rfl⟩
      obtain ⟨h1', e4⟩ : ∃ h1', h1' = h0 + c1 := ⟨_, rfl⟩
      obtain ⟨d, e5⟩ : ∃ d, d = (r + l1 + 0) % 18446744073709551616 := ⟨_, rfl⟩
      obtain ⟨c2, e6⟩ : ∃ c2, c2 = (r + l1 + 0) / 18446744073709551616 := ⟨_, rfl⟩
      obtain ⟨c3, e7⟩ : ∃ c3, c3 = h1' + c2 := ⟨_, rfl⟩
      obtain ⟨q1, q2, q3, q4⟩ := s_parts hb64 hy hcy hr64 e0 e1 e2 e3 e4 e5 e6 e7
      have H2 := hide (s_step hAt.out (by omega) hr hb q3 q2 q4)
      have CM := hide (fun w => word_mul b y w hb64 hy)
      have CA := hide (fun w => word_add l0 cy 0 0 w (Or.inl ⟨rfl, rfl⟩))
      have CB := hide (fun w => word_add r l1 0 0 w (Or.inl ⟨rfl, rfl⟩))
      rw [← e0, ← e1] at CM
      rw [← e2, ← e3] at CA
      rw [← e5, ← e6] at CB
      have E4 : (h0 : Int) + (c1 : Int) = (h1' : Int) := by omega
      have E7 : (h1' : Int) + (c2 : Int) = (c3 : Int) := by omega
      clear hr hb e0 e1 e2 e3 e4 e5 e6 e7 q4
      go_wp2_with fail
      refine (unhide CM _).mono ?_
      rintro e w1 ⟨rfl, rfl⟩
      go_wp2_with fail
      refine (unhide CA _).mono ?_
      rintro e w2 ⟨rfl, rfl⟩
      go_wp2_with fail
      refine (unhide CB _).mono ?_
      rintro e w3 ⟨rfl, rfl⟩
      go_wp2
      exact ⟨⟨k + 1, c3, _, by omega, by first | rfl | exact congrArg (Value.int .u64) E7, by go_num, q2, hBlk.set (o + k) d, H2, hRb.but (grown_set _ _ _ _) (unhide HNE), grown_trans hG (grown_set _ _ _ _)⟩, by simp [intOf]; omega⟩
    · obtain rfl : k = lb := by omega
      go_wp2
      go_ret
      exact ⟨cy, zs, rfl, hAt.out, hBlk, hG⟩

end Go.Proofs.YtiekgpphggejcaaGreatDoor

/- crossProducts and squares of school. -/
namespace Go.Proofs.YtiekgpphggejcaaGreatDoor
open Go.RowKit

theorem blk_noughts (w : World) (n : Nat) : Blk (w.alloc (.cells (zlist n).toArray 78)) w.heap.size (List.replicate n 0) := heap_alloc_new w _

theorem Rep.drop {w : World} {ga : Option Addr} {b o cap : Nat} {xs : List Nat} (h : Rep w ga b o cap xs) (s : Nat) (hs : s ≤ xs.length) : Rep w (some ⟨b, o + s, none⟩) b (o + s) (cap - s) (xs.drop s) :=
  ⟨fun _ => rfl, by have := h.room; simp; omega, fun j hj => by
    have hj' : s + j < xs.length := by simp at hj; omega
    have := h.cell (s + j) hj'
    rw [Nat.add_assoc, this]
    simp [List.getD_eq_getElem?_getD]⟩

set_option maxRecDepth 100000 in
set_option maxHeartbeats 3200000 in
theorem cross_any (w : World) (ga : Option Addr) (b o cap n : Nat) (xs : List Nat) (hl : xs.length = n) (hn : n ≤ 268435456) (hR : Rep w ga b o cap xs) (dx : WDig xs) :
    Calls Tryz.prog 73 #[.slice ga n cap] w fun e w' => ∃ zs, e = .returned (.slice (some ⟨w.heap.size, 0, none⟩) (2 * n) (2 * n)) ∧ CRow xs zs n n ∧ Blk w' w.heap.size zs ∧ Below w.heap.size w w' := by
  have hst := hide (c_start xs n)
  have hk0 := hide (blk_noughts w (2 * n))
  obtain ⟨N, hN⟩ : ∃ N, N = 2 * n := ⟨_, rfl⟩
  have hN' : 2 * (n : Int) = (N : Int) := by omega
  rw [← hN] at hst hk0 ⊢
  have hmk := make_nat N N (2 * (n : Int)) hN' rfl (by omega)
  have HB0 := hide ((Below.refl w.heap.size w).alloc (Nat.le_refl _) (.cells (zlist N).toArray 78))
  have hcap := hR.room
  rw [hl] at hcap
  have hn2 : 2 * n ≤ 536870912 := by omega
  have HN := hide hN
  clear hN hN' hn
  go_enter Tryz.func73, Tryz.ntmps73
  go_wp2
  go_loopw [12] (fun i wr => ∃ (k : Nat) (zs : List Nat), k ≤ n ∧ i = .int .i64 (k : Int) ∧ Blk wr w.heap.size zs ∧ Hid (CRow xs zs n k) ∧ Below w.heap.size w wr)
    (fun i _ => n - (intOf i).toNat)
  case atStart => exact ⟨0, _, Nat.zero_le _, rfl, unhide hk0, hst, unhide HB0⟩
  case round =>
    obtain ⟨k, z0, hk, rfl, hBlk, hAt, hnx⟩ := hrel
    have hzl : z0.length = 2 * n := hAt.out.1
    by_cases h1 : k < n
    · obtain rfl := hR.head (by omega)
      obtain ⟨y, hy⟩ : ∃ y : Nat, y = xs.getD k 0 := ⟨_, rfl⟩
      have hy64 : y < 18446744073709551616 := by rw [hy]; exact dx k
      have hRw := hR.next hnx
      have cy : wr.cell? ⟨b, o + k, none⟩ = some (.int .u64 (y : Int)) := by rw [hy]; exact hRw.cell k (by omega)
      obtain ⟨p0, hp0⟩ : ∃ p0, p0 = 2 * k := ⟨_, rfl⟩
      obtain ⟨p, hp⟩ : ∃ p, p = 2 * k + 1 := ⟨_, rfl⟩
      obtain ⟨s, hs⟩ : ∃ s, s = k + 1 := ⟨_, rfl⟩
      obtain ⟨M, hM⟩ : ∃ M, N = p + M := ⟨N - p, by have := unhide HN; omega⟩
      obtain ⟨l, hlb⟩ : ∃ l, l = n - (k + 1) := ⟨_, rfl⟩
      obtain ⟨cc, hcc⟩ : ∃ cc, cc = cap - s := ⟨_, rfl⟩
      have hRd : Rep w (some ⟨b, o + s, none⟩) b (o + s) cc (xs.drop s) := by rw [hcc]; exact hR.drop s (by omega)
      have hld : (xs.drop s).length = l := by simp; omega
      have hne : 0 < (xs.drop s).length → b ≠ w.heap.size := fun h => by have := hR.lt (by omega); omega
      have CA := hide (fun gb cx W (hB : Blk W w.heap.size z0) (hr : Rep W gb b (o + s) cx (xs.drop s)) => addTimes_any W w.heap.size p M M b (o + s) cx l y gb z0 (xs.drop s) (by rw [hzl, ← unhide HN, hM]) hld (by have := unhide HN; omega) (by have := unhide HN; omega) hy64 hB hAt.out.2.1 hr (wDig_drop dx s) hne)
      have HRD := hide hRd
      have HLD := hide hld
      have e1 : 2 * (k : Int) = (p0 : Int) := by omega
      have e2 : (p0 : Int) + 1 = (p : Int) := by omega
      have e3 : (k : Int) + 1 = (s : Int) := by omega
      have hw0 : IntKind.i64.wrap (p0 : Int) = (p0 : Int) := by rw [IntKind.wrap_i64]; omega
      have hw1 : IntKind.i64.wrap (p : Int) = (p : Int) := by rw [IntKind.wrap_i64]; omega
      have hw2 : IntKind.i64.wrap (s : Int) = (s : Int) := by rw [IntKind.wrap_i64]; omega
      have i1 : 0 ≤ (p : Int) ∧ (p : Int) ≤ (N : Int) := by have := unhide HN; omega
      have i2 : 0 ≤ (s : Int) ∧ (s : Int) ≤ (n : Int) := by omega
      have i3 : p ≤ N := by omega
      have i4 : N - p = M := by omega
      have i5 : ¬ N = p := by have := unhide HN; omega
      have i6 : s ≤ n := by omega
      have i7 : n - s = l := by omega
      have i8 : cap - s = cc := by omega
      obtain ⟨t, ht⟩ : ∃ t, t = k + n := ⟨_, rfl⟩
      have e4 : (k : Int) + (n : Int) = (t : Int) := by omega
      have hw3 : IntKind.i64.wrap (t : Int) = (t : Int) := by rw [IntKind.wrap_i64]; omega
      have i9 : 0 ≤ (t : Int) ∧ (t : Int) < (N : Int) := by have := unhide HN; omega
      have i10 : t < N := by omega
      have hzN : z0.length = N := by rw [hzl]; exact (unhide HN).symm
      have HZN := hide hzN
      have HT := hide ht
      have HM := hide hM
      have HY := hide hy
      have HS := hide hs
      have HP := hide hp
      have HLB := hide hlb
      clear hzN hzl ht hy hp0 hp hs hM hlb hcc hne hld hRd hmk hk0 hst HB0 hRw
      have HNIL : Hid (cap = s → ∀ W gb cx, Rep W gb b (o + s) cx (xs.drop s)) := fun h W gb cx => by rw [List.drop_eq_nil_of_le (by omega)]; exact Rep.nil _ _ _ _ _
      have HC : Hid (∀ c zs, SAt z0 zs (xs.drop s) y p l c → CRow xs (zs.set t c) n s) := fun c zs h => by
        have hh := HS.out; have hh2 := HP.out; have hh3 := HLB.out; have hh4 := HT.out
        subst hh hh2 hh3 hh4
        exact c_step hAt.out h HY.out hl h1
      have hsz := hnx.size
      by_cases hcs : cap = s
      · have HNIL2 := hide (HNIL.out hcs)
        clear i8 HNIL
        obtain rfl := hcs.symm
        go_wp2
        go_region_with (go_at_call 90; refine (unhide CA _ _ _ ?_ ?_).mono ?_; exact hBlk; exact unhide HNIL2 _ _ _; rintro e w4 ⟨c, zs, rfl, hS, k4, g4⟩; have c4 := k4.cell t (by rw [hS.1, unhide HZN]; omega); have f4 := k4.frozen t; have hS := hide hS)
        go_wp2
        go_roundw
        case rel => exact ⟨s, zs.set t c, by omega, rfl, k4.set t c, unhide HC _ _ hS.out, (below_grown hnx.drew g4 (Nat.le_refl _) hsz).setCell (Nat.le_refl _) _⟩
        case measure => simp [intOf]; omega
      · go_wp2
        go_region_with (go_at_call 90; refine (unhide CA _ _ _ ?_ ?_).mono ?_; exact hBlk; exact (unhide HRD).next hnx.drew; rintro e w4 ⟨c, zs, rfl, hS, k4, g4⟩; have c4 := k4.cell t (by rw [hS.1, unhide HZN]; omega); have f4 := k4.frozen t; have hS := hide hS)
        go_wp2
        exact ⟨⟨s, zs.set t c, by omega, rfl, k4.set t c, unhide HC _ _ hS.out, (below_grown hnx.drew g4 (Nat.le_refl _) hsz).setCell (Nat.le_refl _) _⟩, by simp [intOf]; omega⟩
    · obtain rfl : k = n := by omega
      go_wp2
      go_ret
      exact ⟨z0, rfl, hAt.out, hBlk, hnx⟩

end Go.Proofs.YtiekgpphggejcaaGreatDoor

/- squares of school. -/
namespace Go.Proofs.YtiekgpphggejcaaGreatDoor
open Go.RowKit

set_option maxRecDepth 100000 in
set_option maxHeartbeats 3200000 in
theorem squares_any (w : World) (ga : Option Addr) (b o cap n : Nat) (xs : List Nat) (hl : xs.length = n) (hn : n ≤ 268435456) (hR : Rep w ga b o cap xs) (dx : WDig xs) :
    Calls Tryz.prog 75 #[.slice ga n cap] w fun e w' => ∃ zs, e = .returned (.slice (some ⟨w.heap.size, 0, none⟩) (2 * n) (2 * n)) ∧ QRow xs zs n n ∧ Blk w' w.heap.size zs ∧ Below w.heap.size w w' := by
  have hst := hide (q_start xs n)
  have hk0 := hide (blk_noughts w (2 * n))
  obtain ⟨N, hN⟩ : ∃ N, N = 2 * n := ⟨_, rfl⟩
  have hN' : 2 * (n : Int) = (N : Int) := by omega
  rw [← hN] at hst hk0 ⊢
  have hmk := make_nat N N (2 * (n : Int)) hN' rfl (by omega)
  have HB0 := hide ((Below.refl w.heap.size w).alloc (Nat.le_refl _) (.cells (zlist N).toArray 78))
  have hn2 : 2 * n ≤ 536870912 := by omega
  have HN := hide hN
  clear hN hN' hn
  go_enter Tryz.func75, Tryz.ntmps75
  go_wp2
  go_loopw [12] (fun i wr => ∃ (k : Nat) (zs : List Nat), k ≤ n ∧ i = .int .i64 (k : Int) ∧ Blk wr w.heap.size zs ∧ Hid (QRow xs zs n k) ∧ Below w.heap.size w wr)
    (fun i _ => n - (intOf i).toNat)
  case atStart => exact ⟨0, _, Nat.zero_le _, rfl, unhide hk0, hst, unhide HB0⟩
  case round =>
    obtain ⟨k, z0, hk, rfl, hBlk, hAt, hnx⟩ := hrel
    have hzl : z0.length = 2 * n := hAt.out.1
    by_cases h1 : k < n
    · obtain rfl := hR.head (by omega)
      obtain ⟨y, hy⟩ : ∃ y : Nat, y = xs.getD k 0 := ⟨_, rfl⟩
      have hy64 : y < 18446744073709551616 := by rw [hy]; exact dx k
      have hRw := hR.next hnx
      have cy : wr.cell? ⟨b, o + k, none⟩ = some (.int .u64 (y : Int)) := by rw [hy]; exact hRw.cell k (by omega)
      obtain ⟨p0, hp0⟩ : ∃ p0, p0 = 2 * k := ⟨_, rfl⟩
      obtain ⟨p, hp⟩ : ∃ p, p = 2 * k + 1 := ⟨_, rfl⟩
      have e1 : 2 * (k : Int) = (p0 : Int) := by omega
      have e2 : (p0 : Int) + 1 = (p : Int) := by omega
      have hw0 : IntKind.i64.wrap (p0 : Int) = (p0 : Int) := by rw [IntKind.wrap_i64]; omega
      have hw1 : IntKind.i64.wrap (p : Int) = (p : Int) := by rw [IntKind.wrap_i64]; omega
      have i1 : 0 ≤ (p : Int) ∧ (p : Int) < (N : Int) := by have := unhide HN; omega
      have i2 : 0 ≤ (p0 : Int) ∧ (p0 : Int) < (N : Int) := by have := unhide HN; omega
      have i3 : p < N := by omega
      have i4 : p0 < N := by omega
      have i5 : ¬ p = p0 := by omega
      have hzN : z0.length = N := by rw [hzl]; exact (unhide HN).symm
      have c1 := hBlk.cell p (by omega)
      have c0 := hBlk.cell p0 (by omega)
      have f1 := hBlk.frozen p
      have f0 := hBlk.frozen p0
      obtain ⟨hi, hh⟩ : ∃ hi, hi = y * y / 18446744073709551616 := ⟨_, rfl⟩
      obtain ⟨lo, hlo⟩ : ∃ lo, lo = y * y % 18446744073709551616 := ⟨_, rfl⟩
      have CM := hide (fun w => word_mul y y w hy64 hy64)
      rw [← hh, ← hlo] at CM
      have hp2 : 18446744073709551616 * hi + lo = y * y := by rw [hh, hlo]; exact Nat.div_add_mod _ _
      have hlo64 : lo < 18446744073709551616 := by rw [hlo]; exact Nat.mod_lt _ (by omega)
      have hhi64 : hi < 18446744073709551616 := by rw [hh]; exact Nat.div_lt_of_lt_mul (Nat.mul_lt_mul'' hy64 hy64)
      have HC : Hid (QRow xs ((z0.set p hi).set p0 lo) n (k + 1)) := by
        subst hp hp0
        exact q_step hAt.out hy h1 hhi64 hlo64 hp2
      clear hy hp0 hp hzN hzl hmk hk0 hst HB0 hRw hh hlo hp2
      go_wp2_with fail
      refine (unhide CM _).mono ?_
      rintro e w1 ⟨rfl, rfl⟩
      go_wp2
      exact ⟨⟨k + 1, (z0.set p hi).set p0 lo, by omega, by go_num, (hBlk.set p hi).set p0 lo, HC, (hnx.setCell (Nat.le_refl _) _).setCell (Nat.le_refl _) _⟩, by simp [intOf]; omega⟩
    · obtain rfl : k = n := by omega
      go_wp2
      go_ret
      exact ⟨z0, rfl, hAt.out, hBlk, hnx⟩

end Go.Proofs.YtiekgpphggejcaaGreatDoor

/- Cmp of limb, and Compare of package cmp. -/
namespace Go.Proofs.YtiekgpphggejcaaGreatDoor
open Go.RowKit

/-- A callee that draws nothing, met behind two regions that draw. -/
theorem quiet_two {P : Program} {f : FuncId} {args : Array Value} {w : World} {q n : Nat} {v : Value} (h : Calls P f args (w.drewN (q + n)) fun e w' => e = .returned v ∧ w' = w.drewN (q + n)) : Calls P f args (w.drewN (q + n)) fun e w'' => e = .returned v ∧ ∃ m, w'' = w.drewN (q + m) :=
  h.mono fun _ _ ⟨he, hm⟩ => ⟨he, n, hm⟩

theorem cmpN_of {m n a b : Nat} (h1 : a < b → m < n) (h2 : b < a → n < m) (h : a ≠ b) : cmpN a b = cmpN m n := by
  rcases Nat.lt_trichotomy a b with k | k | k
  · rw [cmpN_lt k, cmpN_lt (h1 k)]
  · exact absurd k h
  · rw [cmpN_gt k, cmpN_gt (h2 k)]

end Go.Proofs.YtiekgpphggejcaaGreatDoor

/- Zero, within, farthest and Join of limb: parts, each so many words higher than the one ahead, are summed. -/
namespace Go.Proofs.YtiekgpphggejcaaGreatDoor
open Go.RowKit

theorem wval_zero {us : List Nat} (h : WCan us) : us.length = 0 ↔ wval us = 0 := by
  constructor
  · intro e
    obtain rfl : us = [] := List.length_eq_zero_iff.1 e
    rfl
  · intro e
    have := wlen_le h (L := 0) (by rw [e]; decide)
    omega

/-- Len of a row that came in: as many words as its number has. -/
theorem len_in {w : World} {v : Value} {n : Nat} (h : InW w v n) : ∃ l, l ≤ 1073741824 ∧ (∀ us, WCan us → wval us = n → us.length = l) ∧ (l = 0 ↔ n = 0) ∧ Calls Tryz.prog 39 #[v] w fun e w' => e = .returned (.int .i64 (l : Int)) ∧ w' = w := by
  obtain ⟨ga, b, o, cap, xs, rfl, hr, hd, hv, hl⟩ := h
  have hc := nrm_wcan hd
  have hle := nlen_le xs xs.length
  refine ⟨nlen xs xs.length, by omega, fun us h1 h2 => ?_, ?_, len_any w ga b o cap _ xs rfl (by omega) hr⟩
  · rw [← nrm_length, wCan_unique h1 hc (by rw [nrm_wval, h2, hv])]
  · rw [← nrm_length, wval_zero hc, nrm_wval, hv]

set_option maxHeartbeats 400000 in
theorem zero_in {w : World} {v : Value} {n : Nat} (h : InW w v n) (b : Bool) (hb : b = decide (n = 0)) : Calls Tryz.prog 47 #[v] w fun e w' => e = .returned (.bool b) ∧ w' = w := by
  obtain ⟨l, h1, h2, h3, CL⟩ := len_in h
  have CL := hide CL
  have hq : ((l : Int) == 0) = b := by
    rw [hb]
    by_cases hn : n = 0
    · have : l = 0 := h3.2 hn
      subst this; simp [hn]
    · have : l ≠ 0 := fun e => hn (h3.1 e)
      simp [hn]; omega
  clear h h2 h3 hb
  go_enter Tryz.func47, Tryz.ntmps47
  go_wp2_with fail
  refine (unhide CL).mono ?_
  rintro e w' ⟨rfl, rfl⟩
  clear CL
  go_wp2
  go_ret
  exact ⟨rfl, rfl⟩

set_option maxHeartbeats 400000 in
theorem within_lim (z : Int) (most k : Nat) (w : World) (hk : (k : Int) = min (max z 0) (most : Int)) : Calls Tryz.prog 94 #[.int .i64 z, .int .i64 (most : Int)] w fun e w' => e = .returned (.int .i64 (k : Int)) ∧ w' = w := by
  have HK := hide hk
  clear hk
  go_enter Tryz.func94, Tryz.ntmps94
  go_wp2
  go_ret
  exact ⟨ret_int (unhide HK).symm, rfl⟩

/-- Parts: a row of rows in memory, each of which says a number. -/
structure Parts (w : World) (gp : Option Addr) (bp op : Nat) (vs : List Value) (ns : List Nat) : Prop where
  head : 0 < vs.length → gp = some ⟨bp, op, none⟩
  len : ns.length = vs.length
  cell : ∀ j, j < vs.length → w.cell? ⟨bp, op + j, none⟩ = some (vs.getD j undef)
  each : ∀ j, j < vs.length → InW w (vs.getD j undef) (ns.getD j 0)

theorem Parts.lt {w : World} {gp : Option Addr} {bp op : Nat} {vs : List Value} {ns : List Nat} (h : Parts w gp bp op vs ns) (h0 : 0 < vs.length) : bp < w.heap.size := World.block_lt_of_cell? _ _ (h.cell 0 h0)
theorem Parts.next {w w' : World} {gp : Option Addr} {bp op : Nat} {vs : List Value} {ns : List Nat} (h : Parts w gp bp op vs ns) (hb : Below w.heap.size w w') : Parts w' gp bp op vs ns :=
  ⟨h.head, h.len, fun j hj => (hb.cell (by exact h.lt (by omega))).trans (h.cell j hj), fun j hj => (h.each j hj).next hb⟩

/-- The sum of the first i parts, the j-th times B to the k j. -/
def jsum (k : Nat) (ns : List Nat) : Nat → Nat
  | 0 => 0
  | i + 1 => jsum k ns i + 18446744073709551616 ^ (k * i) * ns.getD i 0

/-- E is not nearer than the end of any part. -/
def Far (k : Nat) (ns : List Nat) (i E : Nat) : Prop := ∀ j, j < i → ns.getD j 0 ≠ 0 → ∀ us, WCan us → wval us = ns.getD j 0 → k * j + us.length ≤ E

theorem far_zero {k : Nat} {ns : List Nat} {i E : Nat} (h : Far k ns i E) (hz : ns.getD i 0 = 0) : Far k ns (i + 1) E := fun j hj hn us h1 h2 => by
  by_cases e : j = i
  · subst e; exact absurd hz hn
  · exact h j (by omega) hn us h1 h2
theorem far_more {k : Nat} {ns : List Nat} {i E l E' : Nat} (h : Far k ns i E) (hl : ∀ us, WCan us → wval us = ns.getD i 0 → us.length = l) (h1 : E ≤ E') (h2 : k * i + l ≤ E') : Far k ns (i + 1) E' := fun j hj hn us c1 c2 => by
  by_cases e : j = i
  · subst e; have := hl us c1 c2; omega
  · have := h j (by omega) hn us c1 c2; omega

theorem jsum_lt {k : Nat} {ns : List Nat} {i E : Nat} (hF : Far k ns i E) (hW : ∀ j, j < i → ∃ us, WCan us ∧ wval us = ns.getD j 0) : ∀ j, j ≤ i → jsum k ns j ≤ j * (18446744073709551616 ^ E - 1)
  | 0 => fun _ => by simp [jsum]
  | j + 1 => fun hj => by
    have ih := jsum_lt hF hW j (by omega)
    have ht : 18446744073709551616 ^ (k * j) * ns.getD j 0 ≤ 18446744073709551616 ^ E - 1 := by
      by_cases hn : ns.getD j 0 = 0
      · rw [hn]; simp
      · obtain ⟨us, h1, h2⟩ := hW j (by omega)
        have h3 := hF j (by omega) hn us h1 h2
        have h4 := wval_lt_pow h1.1
        rw [h2] at h4
        have h5 : 18446744073709551616 ^ (k * j) * (ns.getD j 0 + 1) ≤ 18446744073709551616 ^ (k * j) * 18446744073709551616 ^ us.length := Nat.mul_le_mul_left _ h4
        rw [← Nat.pow_add] at h5
        have h6 : 18446744073709551616 ^ (k * j + us.length) ≤ 18446744073709551616 ^ E := Nat.pow_le_pow_right (by omega) h3
        have h7 := wpow_pos (k * j)
        rw [Nat.mul_add, Nat.mul_one] at h5
        omega
    rw [jsum, Nat.add_mul, Nat.one_mul]
    omega
theorem jsum_room {k : Nat} {ns : List Nat} {i E : Nat} (hF : Far k ns i E) (hW : ∀ j, j < i → ∃ us, WCan us ∧ wval us = ns.getD j 0) (hi : i ≤ 65536) : ∀ j, j ≤ i → jsum k ns j < 18446744073709551616 ^ (E + 1) := fun j hj => by
  have h1 := jsum_lt hF hW j hj
  have h2 : j * (18446744073709551616 ^ E - 1) ≤ 65536 * (18446744073709551616 ^ E - 1) := Nat.mul_le_mul_right _ (by omega)
  have h3 := wpow_pos E
  rw [Nat.pow_succ]
  omega

theorem in_words {w : World} {v : Value} {n : Nat} (h : InW w v n) : ∃ us, WCan us ∧ wval us = n := by
  obtain ⟨ga, b, o, cap, xs, rfl, hr, hd, hv, hl⟩ := h
  exact ⟨nrm xs, nrm_wcan hd, by rw [nrm_wval]; exact hv⟩

set_option maxRecDepth 100000 in
set_option maxHeartbeats 3200000 in
theorem farthest_any (w : World) (gp : Option Addr) (bp op cp np k : Nat) (vs : List Value) (ns : List Nat) (hvl : vs.length = np) (hnp : np ≤ 65536) (hk : k ≤ 16384) (hP : Parts w gp bp op vs ns) :
    Calls Tryz.prog 95 #[.int .i64 (k : Int), .slice gp np cp] w fun e w' => ∃ E : Nat, e = .returned (.int .i64 (E : Int)) ∧ E ≤ 4294967296 ∧ Far k ns np E ∧ w' = w := by
  go_enter Tryz.func95, Tryz.ntmps95
  go_wp2
  go_loop [5, 10] (fun e i => ∃ (q E : Nat), q ≤ np ∧ e = .int .i64 (E : Int) ∧ i = .int .i64 (q : Int) ∧ E ≤ 4294967296 ∧ Hid (Far k ns q E)) (fun _ i => np - (intOf i).toNat)
  case atStart => exact ⟨0, 0, Nat.zero_le _, rfl, rfl, by omega, fun j hj => absurd hj (by omega)⟩
  case round =>
    obtain ⟨q, E, hq, rfl, rfl, hE, hF⟩ := hrel
    by_cases h1 : q < np
    · obtain rfl := hP.head (by omega)
      have cv := hP.cell q (by omega)
      have hin := hP.each q (by omega)
      obtain ⟨v, hv⟩ : ∃ v, v = vs.getD q undef := ⟨_, rfl⟩
      obtain ⟨n, hn⟩ : ∃ n, n = ns.getD q 0 := ⟨_, rfl⟩
      rw [← hv] at cv hin
      rw [← hn] at hin
      obtain ⟨l, hl, hl2, hl3, CL⟩ := len_in hin
      have CL := hide CL
      by_cases h0 : n = 0
      · have CZ := hide (zero_in hin true (by simp [h0]))
        have H2 := hide (far_zero hF.out (by rw [← hn]; exact h0))
        clear hv hn hin hl2 hl3 h0
        go_wp2_with fail
        refine (unhide CZ).mono ?_
        rintro e w' ⟨rfl, rfl⟩
        clear CZ CL
        go_wp2
        exact ⟨⟨q + 1, E, by omega, rfl, by go_num, hE, H2⟩, by simp [intOf]; omega⟩
      · have CZ := hide (zero_in hin false (by simp [h0]))
        obtain ⟨p, hp⟩ : ∃ p, p = k * q := ⟨_, rfl⟩
        have hpb : p ≤ 1073741824 := by rw [hp]; exact Nat.mul_le_mul (m₂ := 65536) hk (by omega)
        have hpi : (k : Int) * (q : Int) = (p : Int) := by rw [hp]; exact (Int.natCast_mul k q).symm
        have HP := hide hp
        have H2 := hide (far_more (E' := max E (p + l)) hF.out (by rw [← hn]; exact hl2) (by omega) (by omega))
        clear hv hn hin hl2 hl3 h0 hp
        go_wp2_with fail
        refine (unhide CZ).mono ?_
        rintro e w' ⟨rfl, rfl⟩
        clear CZ
        go_wp2_with fail
        refine (unhide CL).mono ?_
        rintro e w' ⟨rfl, rfl⟩
        clear CL
        go_wp2
        exact ⟨⟨q + 1, max E (p + l), by omega, congrArg (Value.int .i64) (by omega), by go_num, by omega, H2⟩, by simp [intOf]; omega⟩
    · obtain rfl : q = np := by omega
      go_wp2
      go_ret
      exact ⟨E, rfl, hE, hF.out, rfl⟩

end Go.Proofs.YtiekgpphggejcaaGreatDoor

/- DivWord of limb: by one word. -/
namespace Go.Proofs.YtiekgpphggejcaaGreatDoor
open Go.RowKit

set_option maxRecDepth 100000 in
set_option maxHeartbeats 1600000 in
theorem norm_blk (w : World) (u : Value) (m : Nat) (hu : InW w u m) :
    Calls Tryz.prog 60 #[u] w fun e w' => ∃ us, WCan us ∧ wval us = m ∧ us.length ≤ 1073741824 ∧ e = .returned (.slice (some ⟨w.heap.size, 0, none⟩) us.length us.length) ∧ Blk w' w.heap.size us ∧ Below w.heap.size w w' := by
  obtain ⟨ga, ba, oa, ca, us, rA, cA, vA, lA, CA⟩ := trim_in hu
  have CA := hide CA
  obtain ⟨la, hla⟩ : ∃ la, la = us.length := ⟨_, rfl⟩
  rw [← hla] at CA lA
  have HLA := hide hla
  clear hu hla
  go_enter Tryz.func60, Tryz.ntmps60
  go_wp2_with fail
  refine (unhide CA).mono ?_
  rintro e w1 ⟨rfl, rfl⟩
  clear CA
  go_wp2_with fail
  refine (copyOf_any _ ga ba oa ca la us (unhide HLA).symm (by omega) rA).mono ?_
  rintro e w3 ⟨rfl, k3, b3⟩
  go_wp2
  go_ret
  exact ⟨us, cA, vA, by rw [← unhide HLA]; exact lA, by rw [← unhide HLA]; exact ret_slice rfl, k3, b3⟩

/-- From place k on the words are divided; r is left. -/
def WDivAt (us zs : List Nat) (y k r : Nat) : Prop := zs.length = us.length ∧ WDig zs ∧ r < y ∧ (∀ j, j < k → zs.getD j 0 = us.getD j 0) ∧ wval (us.drop k) = wval (zs.drop k) * y + r

theorem drop_cons (xs : List Nat) (j : Nat) (h : j < xs.length) : xs.drop j = xs.getD j 0 :: xs.drop (j + 1) := by
  rw [List.drop_eq_getElem_cons h, getD_lt h]
theorem wdiv_start {us : List Nat} {y : Nat} (h : WDig us) (hy : 0 < y) : WDivAt us us y us.length 0 := ⟨rfl, h, hy, fun _ _ => rfl, by simp [wval]⟩
theorem wdiv_step {us zs : List Nat} {y j r c Q R : Nat} (h : WDivAt us zs y (j + 1) r) (hj : j < us.length) (hy : y < 18446744073709551616) (hc : c = zs.getD j 0) (hQ : Q = (18446744073709551616 * r + c) / y) (hR : R = (18446744073709551616 * r + c) % y) :
    WDivAt us (zs.set j Q) y j R ∧ Q < 18446744073709551616 := by
  obtain ⟨h1, h2, h3, h4, h5⟩ := h
  have hc64 : c < 18446744073709551616 := by rw [hc]; exact h2 j
  have hQ64 : Q < 18446744073709551616 := by
    rw [hQ, Nat.div_lt_iff_lt_mul (by omega)]
    have : 18446744073709551616 * (r + 1) ≤ 18446744073709551616 * y := Nat.mul_le_mul_left _ h3
    omega
  refine ⟨⟨by simpa using h1, wDig_set h2 (by omega) hQ64, by rw [hR]; exact Nat.mod_lt _ (by omega), fun i hi => ?_, ?_⟩, hQ64⟩
  · rw [getD_set _ _ _ _ (by omega), if_neg (by omega)]
    exact h4 i (by omega)
  · have e1 : (zs.set j Q).drop j = Q :: zs.drop (j + 1) := by
      rw [drop_cons _ j (by simpa using (by omega : j < zs.length)), getD_set _ _ _ _ (by omega), if_pos rfl]
      congr 1
      rw [List.drop_set, if_pos (by omega)]
    have e2 : us.drop j = c :: us.drop (j + 1) := by rw [drop_cons us j hj, hc, h4 j (by omega)]
    have e3 : Q * y + R = 18446744073709551616 * r + c := by rw [hQ, hR]; exact Nat.div_add_mod' _ _
    rw [e1, e2]
    simp only [wval]
    rw [h5, Nat.add_mul, Nat.mul_assoc]
    generalize wval (zs.drop (j + 1)) * y = T at *
    generalize Q * y = U at *
    omega
theorem wdiv_end {us zs : List Nat} {y r : Nat} (h : WDivAt us zs y 0 r) : wval zs = wval us / y ∧ r = wval us % y := by
  obtain ⟨_, _, h3, _, h5⟩ := h
  rw [List.drop_zero, List.drop_zero] at h5
  rw [h5, Nat.mul_comm]
  constructor
  · rw [Nat.mul_add_div (by omega), Nat.div_eq_of_lt h3, Nat.add_zero]
  · rw [Nat.mul_add_mod, Nat.mod_eq_of_lt h3]

set_option maxHeartbeats 800000 in
theorem divWord_no (w : World) (u : Value) : Calls Tryz.prog 129 #[u, .int .u64 0] w fun e w' => e = .returned (.tuple #[.slice none 0 0, .int .u64 0, .int .i64 2]) ∧ w' = w := by
  go_enter Tryz.func129, Tryz.ntmps129
  go_wp2
  go_ret3
  exact ⟨rfl, rfl⟩

set_option maxRecDepth 100000 in
set_option maxHeartbeats 3200000 in
theorem divWord_w (w : World) (u : Value) (m y : Nat) (hy0 : 0 < y) (hy : y < 18446744073709551616) (hu : InW w u m) :
    Calls Tryz.prog 129 #[u, .int .u64 (y : Int)] w fun e w' => ∃ q, e = .returned (.tuple #[q, .int .u64 ((m % y : Nat) : Int), .int .i64 0]) ∧ NewW w.heap.size w' q (m / y) ∧ Below w.heap.size w w' := by
  obtain ⟨R, hR⟩ : ∃ R, R = m % y := ⟨_, rfl⟩
  obtain ⟨Q, hQ⟩ : ∃ Q, Q = m / y := ⟨_, rfl⟩
  rw [← hR, ← hQ]
  have HR := hide hR
  have HQ := hide hQ
  have hyz : ((y : Int) == 0) = false := by rw [beq_eq_false_iff_ne]; omega
  clear hR hQ
  go_enter Tryz.func129, Tryz.ntmps129
  go_wp2_with fail
  refine (norm_blk _ _ m hu).mono ?_
  rintro e w1 ⟨us, cU, vU, lU, rfl, k1, b1⟩
  obtain ⟨la, hla⟩ : ∃ la, la = us.length := ⟨_, rfl⟩
  rw [← hla] at lU ⊢
  have HLA := hide hla
  have HVU := hide vU
  clear hla hu vU
  go_wp2
  go_loopw [8, 9] (fun rv i wr => ∃ (k r : Nat) (zs : List Nat), k ≤ la ∧ rv = .int .u64 (r : Int) ∧ i = .int .i64 ((k : Int) - 1) ∧ zs.length = la ∧ r < y ∧ Blk wr w.heap.size zs ∧ Hid (WDivAt us zs y k r) ∧ Below w.heap.size w wr)
    (fun _ i _ => (intOf i + 1).toNat)
  case atStart => exact ⟨la, 0, us, Nat.le_refl _, rfl, rfl, (unhide HLA).symm, hy0, k1, by rw [unhide HLA]; exact wdiv_start cU.1 hy0, b1⟩
  case round =>
    obtain ⟨k, r, zs, hk, rfl, rfl, hzl, hr, hBlk, hAt, hnx⟩ := hrel
    by_cases h0 : k = 0
    · subst h0
      obtain ⟨e1, e2⟩ := wdiv_end hAt.out
      rw [unhide HVU] at e1 e2
      have hq : wval zs = Q := by rw [unhide HQ]; exact e1
      have hr2 : (r : Int) = (R : Int) := by rw [unhide HR, e2]
      have hd := hAt.out.2.1
      have HQ2 := hide hq
      have HR2 := hide hr2
      clear e1 e2 hq hr2 hAt
      go_wp2_with fail
      refine (trim_blk (B := w.heap.size) hzl (by omega) (Nat.le_refl _) hBlk hd).mono ?_
      rintro e w6 ⟨q, rfl, hq, rfl⟩
      rw [unhide HQ2] at hq
      go_wp2
      go_ret3
      exact ⟨q, by rw [← unhide HR2]; rfl, hq, hnx⟩
    · obtain ⟨j, rfl⟩ : ∃ j, k = j + 1 := ⟨k - 1, by omega⟩
      have ej : ((j + 1 : Nat) : Int) - 1 = (j : Int) := by omega
      rw [ej]
      obtain ⟨c, hc⟩ : ∃ c : Nat, c = zs.getD j 0 := ⟨_, rfl⟩
      have cr : wr.cell? ⟨w.heap.size, j, none⟩ = some (.int .u64 (c : Int)) := by rw [hc]; exact hBlk.cell j (by omega)
      have hc64 : c < 18446744073709551616 := by rw [hc]; exact hAt.out.2.1 j
      obtain ⟨Qd, hQd⟩ : ∃ Qd, Qd = (18446744073709551616 * r + c) / y := ⟨_, rfl⟩
      obtain ⟨Rd, hRd⟩ : ∃ Rd, Rd = (18446744073709551616 * r + c) % y := ⟨_, rfl⟩
      obtain ⟨H2, hq64⟩ := wdiv_step hAt.out (by rw [← unhide HLA]; omega) hy hc hQd hRd
      have hR2 := H2.2.2.1
      have H2 := hide H2
      have CD := hide (fun w => word_div r c y Qd Rd w hr hc64 hy hQd hRd)
      clear hc hQd hRd hAt
      go_wp2_with fail
      refine (unhide CD _).mono ?_
      rintro e w5 ⟨rfl, b5⟩
      have cr := hBlk.next b5
      have cr2 := cr.cell j (by omega)
      have fr := cr.frozen j
      have hnx := hnx.trans (b5.mono hnx.size)
      clear b5
      go_wp2
      exact ⟨⟨j, Rd, zs.set j Qd, by omega, rfl, by go_num, by simpa using hzl, hR2, cr.set j Qd, H2, hnx.setCell (Nat.le_refl _) _⟩, by simp [intOf]⟩

end Go.Proofs.YtiekgpphggejcaaGreatDoor

/- timesPlus, AddMul, MulWord and SubMul of limb: by one word. -/
namespace Go.Proofs.YtiekgpphggejcaaGreatDoor
open Go.RowKit

theorem ltimes_lt {x y c : Nat} (hx : x < 18446744073709551616) (hy : y < 18446744073709551616) (hc : c < 18446744073709551616) : x * y + c ≤ 18446744073709551616 * 18446744073709551615 := by
  have : x * y ≤ 18446744073709551615 * 18446744073709551615 := Nat.mul_le_mul (by omega) (by omega)
  omega

set_option maxHeartbeats 800000 in
theorem ltimesPlus_any (x y c P hi lo : Nat) (w : World) (hx : x < 18446744073709551616) (hy : y < 18446744073709551616) (hc : c < 18446744073709551616) (hP : P = x * y + c) (hh : hi = P / 18446744073709551616) (hl : lo = P % 18446744073709551616) :
    Calls Tryz.prog 152 #[.int .u64 (x : Int), .int .u64 (y : Int), .int .u64 (c : Int)] w fun e w' => e = .returned (.tuple #[.int .u64 (hi : Int), .int .u64 (lo : Int)]) ∧ w' = w := by
  have hb := ltimes_lt hx hy hc
  have CM := hide (fun w => word_mul x y w hx hy)
  have hp2 : x * y / 18446744073709551616 * 18446744073709551616 + x * y % 18446744073709551616 = x * y := Nat.div_add_mod' _ _
  have hp3 : x * y % 18446744073709551616 < 18446744073709551616 := Nat.mod_lt _ (by omega)
  generalize x * y / 18446744073709551616 = h0 at *
  generalize x * y % 18446744073709551616 = l0 at *
  have CA := hide (fun w => word_add l0 c 0 0 w (Or.inl ⟨rfl, rfl⟩))
  have e1 : ((l0 + c + 0) % 18446744073709551616) = lo := by omega
  have e2 : h0 + (l0 + c + 0) / 18446744073709551616 = hi := by omega
  rw [e1] at CA
  have hlt : hi < 18446744073709551616 := by omega
  generalize (l0 + c + 0) / 18446744073709551616 = o at *
  have e3 : (h0 : Int) + (o : Int) = (hi : Int) := by omega
  clear hb hP hh hl hp2 e1 e2 hx hy hc hp3
  go_enter Tryz.func152, Tryz.ntmps152
  go_wp2_with fail
  refine (unhide CM _).mono ?_
  rintro e w1 ⟨rfl, rfl⟩
  go_wp2_with fail
  refine (unhide CA _).mono ?_
  rintro e w2 ⟨rfl, rfl⟩
  go_wp2
  go_ret2
  exact ⟨ret_two rfl rfl, rfl⟩

/-- k words of bs times y are added; c is carried. -/
def MAddAt (z0 zs bs : List Nat) (y k c : Nat) : Prop := zs.length = z0.length ∧ WDig zs ∧ c < 18446744073709551616 ∧ wval zs + 18446744073709551616 ^ k * c = wval z0 + y * wval (bs.take k)
theorem madd_start {z0 : List Nat} (h : WDig z0) (bs : List Nat) (y : Nat) : MAddAt z0 z0 bs y 0 0 := ⟨rfl, h, by omega, by simp [wval]⟩
theorem madd_step {z0 zs bs : List Nat} {y k c r b P hi lo : Nat} (h : MAddAt z0 zs bs y k c) (hk : k < zs.length) (hr : r = zs.getD k 0) (hb : b = bs.getD k 0) (hb64 : b < 18446744073709551616) (hy : y < 18446744073709551616) (hP : P = b * y + c) (hh : hi = P / 18446744073709551616) (hl : lo = P % 18446744073709551616) :
    MAddAt z0 (zs.set k ((r + lo + 0) % 18446744073709551616)) bs y (k + 1) ((r + lo + 0) / 18446744073709551616 + hi) := by
  obtain ⟨h1, h2, h3, h4⟩ := h
  have hr64 : r < 18446744073709551616 := by rw [hr]; exact h2 _
  have hb' := ltimes_lt hb64 hy h3
  rw [← hP] at hb'
  refine ⟨by simpa using h1, wDig_set h2 hk (Nat.mod_lt _ (by omega)), by omega, ?_⟩
  have hs := wval_set zs k ((r + lo + 0) % 18446744073709551616) hk
  rw [← hr] at hs
  have hPe : 18446744073709551616 * hi + lo = P := by rw [hh, hl]; exact Nat.div_add_mod _ _
  rw [wval_take_succ, ← hb, Nat.mul_add y, Nat.pow_succ, Nat.mul_assoc, Nat.mul_left_comm y]
  have e : 18446744073709551616 ^ k * ((r + lo + 0) % 18446744073709551616) + 18446744073709551616 ^ k * (18446744073709551616 * ((r + lo + 0) / 18446744073709551616 + hi)) = 18446744073709551616 ^ k * r + (18446744073709551616 ^ k * (y * b) + 18446744073709551616 ^ k * c) := by
    rw [← Nat.mul_add, ← Nat.mul_add, ← Nat.mul_add]
    congr 1
    rw [Nat.mul_comm y b]
    omega
  omega
theorem mul_room {us vs : List Nat} {y N : Nat} (h1 : WDig us) (h2 : WDig vs) (hy : y < 18446744073709551616) (hN : N = max us.length vs.length + 1) : wval us + y * wval vs < 18446744073709551616 ^ N := by
  have a := pow_up (wval_lt_pow h1) (q := N - 1) (by omega)
  have b := pow_up (wval_lt_pow h2) (q := N - 1) (by omega)
  have c : y * wval vs ≤ 18446744073709551615 * (18446744073709551616 ^ (N - 1) - 1) := Nat.mul_le_mul (by omega) (by omega)
  rw [show N = N - 1 + 1 from by omega, Nat.pow_succ]
  omega

/-- k words of bs times y are taken; c is borrowed. -/
def MSubAt (z0 zs bs : List Nat) (y k c : Nat) : Prop := zs.length = z0.length ∧ WDig zs ∧ c < 18446744073709551616 ∧ wval zs + y * wval (bs.take k) = wval z0 + 18446744073709551616 ^ k * c
theorem msub_start {z0 : List Nat} (h : WDig z0) (bs : List Nat) (y : Nat) : MSubAt z0 z0 bs y 0 0 := ⟨rfl, h, by omega, by simp [wval]⟩
theorem msub_step {z0 zs bs : List Nat} {y k c r b P hi lo : Nat} (h : MSubAt z0 zs bs y k c) (hk : k < zs.length) (hr : r = zs.getD k 0) (hb : b = bs.getD k 0) (hb64 : b < 18446744073709551616) (hy : y < 18446744073709551616) (hP : P = b * y + c) (hh : hi = P / 18446744073709551616) (hl : lo = P % 18446744073709551616) :
    MSubAt z0 (zs.set k ((r + 18446744073709551616 - lo - 0) % 18446744073709551616)) bs y (k + 1) ((if r < lo + 0 then 1 else 0) + hi) := by
  obtain ⟨h1, h2, h3, h4⟩ := h
  have hr64 : r < 18446744073709551616 := by rw [hr]; exact h2 _
  have hb' := ltimes_lt hb64 hy h3
  rw [← hP] at hb'
  refine ⟨by simpa using h1, wDig_set h2 hk (Nat.mod_lt _ (by omega)), by split <;> omega, ?_⟩
  have hs := wval_set zs k ((r + 18446744073709551616 - lo - 0) % 18446744073709551616) hk
  rw [← hr] at hs
  have hPe : 18446744073709551616 * hi + lo = P := by rw [hh, hl]; exact Nat.div_add_mod _ _
  rw [wval_take_succ, ← hb, Nat.mul_add y, Nat.pow_succ, Nat.mul_assoc, Nat.mul_left_comm y]
  have hd : (r + 18446744073709551616 - lo - 0) % 18446744073709551616 + (b * y + c) = r + 18446744073709551616 * ((if r < lo + 0 then 1 else 0) + hi) := by split <;> omega
  have e : 18446744073709551616 ^ k * ((r + 18446744073709551616 - lo - 0) % 18446744073709551616) + (18446744073709551616 ^ k * (y * b) + 18446744073709551616 ^ k * c) = 18446744073709551616 ^ k * r + 18446744073709551616 ^ k * (18446744073709551616 * ((if r < lo + 0 then 1 else 0) + hi)) := by
    rw [← Nat.mul_add, ← Nat.mul_add, ← Nat.mul_add, Nat.mul_comm y b, hd]
  omega

set_option maxRecDepth 100000 in
set_option maxHeartbeats 3200000 in
theorem addMul_w (w : World) (u v : Value) (m n y : Nat) (hy : y < 18446744073709551616) (hu : InW w u m) (hv : InW w v n) :
    Calls Tryz.prog 127 #[u, v, .int .u64 (y : Int)] w fun e w' => ∃ r, e = .returned r ∧ NewW w.heap.size w' r (m + n * y) ∧ Below w.heap.size w w' := by
  obtain ⟨ga, ba, oa, ca, us, rA, cA, vA, lA, CA⟩ := trim_in hu
  obtain ⟨gb, bb, ob, cb, vs, rB, cB, vB, lB, CB⟩ := trim_in hv
  obtain ⟨N, hN⟩ : ∃ N, N = max us.length vs.length + 1 := ⟨_, rfl⟩
  have hroom := mul_room cA.1 cB.1 hy hN
  have hbN : vs.length + 1 ≤ N := by omega
  have hNb : N ≤ 1073741825 := by omega
  have CA := hide CA
  have CB := hide CB
  have HN := hide hN
  have hzl : (us ++ List.replicate (N - us.length) 0).length = N := by simp; omega
  have hz0 : wval (us ++ List.replicate (N - us.length) 0) = m := by rw [wval_pad, vA]
  have dz0 := wDig_pad cA.1 (N - us.length)
  obtain ⟨la, hla⟩ : ∃ la, la = us.length := ⟨_, rfl⟩
  obtain ⟨lb, hlb⟩ : ∃ lb, lb = vs.length := ⟨_, rfl⟩
  rw [← hla] at CA lA HN hzl hz0 dz0
  rw [← hlb] at CB lB HN hbN
  have HLA := hide hla
  have HLB := hide hlb
  have HR : Hid (m + y * n < 18446744073709551616 ^ N) := by show _ < _; rw [← vA, ← vB]; exact hroom
  have HVB := hide vB
  have hbb : 0 < vs.length → bb < w.heap.size := fun h => rB.lt h
  have HBB := hide hbb
  clear hu hv hN hroom hla hlb vA vB hbb
  go_enter Tryz.func127, Tryz.ntmps127
  go_wp2_with fail
  refine (unhide CA).mono ?_
  rintro e w1 ⟨rfl, rfl⟩
  go_wp2_with fail
  refine (unhide CB).mono ?_
  rintro e w2 ⟨rfl, rfl⟩
  clear CA CB
  go_wp2_with fail
  refine (wider_any _ ga gb ba oa ca cb la lb N us (unhide HLA).symm (by omega) (by omega) rA (unhide HN)).mono ?_
  rintro e w3 ⟨rfl, k3, b3⟩
  generalize us ++ List.replicate (N - la) 0 = z0 at *
  have rB := rB.next b3
  have HZ0 := hide hz0
  have HZL := hide hzl
  clear hz0 hzl
  go_wp2
  go_loopw [8, 22] (fun c i wr => ∃ (k cy : Nat) (zs : List Nat), k ≤ lb ∧ c = .int .u64 (cy : Int) ∧ i = .int .i64 (k : Int) ∧ cy < 18446744073709551616 ∧ Blk wr w2.heap.size zs ∧ Hid (MAddAt z0 zs vs y k cy) ∧ Rep wr gb bb ob cb vs ∧ Below w2.heap.size w2 wr)
    (fun _ i _ => lb - (intOf i).toNat)
  case atStart => exact ⟨0, 0, z0, Nat.zero_le _, rfl, rfl, by omega, k3, madd_start dz0 vs y, rB, b3⟩
  case round =>
    obtain ⟨k, cy, zs, hk, rfl, rfl, hcy, hBlk, hAt, hRb, hnx⟩ := hrel
    have hzl : zs.length = N := by rw [hAt.out.1]; exact unhide HZL
    by_cases h1 : k < lb
    · obtain rfl := hRb.head (by rw [← unhide HLB]; omega)
      obtain ⟨b, hb⟩ : ∃ b : Nat, b = vs.getD k 0 := ⟨_, rfl⟩
      have hb64 : b < 18446744073709551616 := by rw [hb]; exact cB.1 k
      have cbk : wr.cell? ⟨bb, ob + k, none⟩ = some (.int .u64 (b : Int)) := by rw [hb]; exact hRb.cell k (by rw [← unhide HLB]; omega)
      obtain ⟨r, hr⟩ : ∃ r : Nat, r = zs.getD k 0 := ⟨_, rfl⟩
      have cr : wr.cell? ⟨w2.heap.size, k, none⟩ = some (.int .u64 (r : Int)) := by rw [hr]; exact hBlk.cell k (by omega)
      have fr := hBlk.frozen k
      obtain ⟨P, hP⟩ : ∃ P, P = b * y + cy := ⟨_, rfl⟩
      obtain ⟨hi, hh⟩ : ∃ hi, hi = P / 18446744073709551616 := ⟨_, rfl⟩
      obtain ⟨lo, hl⟩ : ∃ lo, lo = P % 18446744073709551616 := ⟨_, rfl⟩
      have CT := hide (fun w => ltimesPlus_any b y cy P hi lo w hb64 hy hcy hP hh hl)
      have H2 := hide (madd_step hAt.out (by omega) hr hb hb64 hy hP hh hl)
      have CA := hide (fun w => word_add r lo 0 0 w (Or.inl ⟨rfl, rfl⟩))
      have hc2 := (unhide H2).2.2.1
      generalize (r + lo + 0) % 18446744073709551616 = d at *
      generalize (r + lo + 0) / 18446744073709551616 = c1 at *
      obtain ⟨c2, hc2e⟩ : ∃ c2, c2 = c1 + hi := ⟨_, rfl⟩
      rw [← hc2e] at H2 hc2
      have ec : (c1 : Int) + (hi : Int) = (c2 : Int) := by omega
      have hne : 0 < vs.length → bb ≠ w2.heap.size := fun h => by have := unhide HBB h; omega
      have HNE := hide hne
      clear hr hb hP hh hl hc2e hne
      go_wp2_with fail
      refine (unhide CT _).mono ?_
      rintro e w4 ⟨rfl, rfl⟩
      go_wp2_with fail
      refine (unhide CA _).mono ?_
      rintro e w5 ⟨rfl, rfl⟩
      go_wp2
      exact ⟨⟨k + 1, c2, _, by omega, by first | rfl | exact congrArg (Value.int .u64) ec, by go_num, hc2, hBlk.set k d, H2, hRb.but (grown_set _ _ _ _) (unhide HNE), hnx.setCell (Nat.le_refl _) _⟩, by simp [intOf]; omega⟩
    · obtain rfl : k = lb := by omega
      obtain ⟨M, hM⟩ : ∃ M, N = k + M := ⟨N - k, by omega⟩
      have hM1 : 1 ≤ M := by omega
      have hMs : N - k = M := by omega
      have hNk : ¬ N = k := by omega
      have hki2 : 0 ≤ (k : Int) ∧ (k : Int) ≤ (N : Int) := by omega
      have htot : wval zs + 18446744073709551616 ^ k * cy = m + y * n := by
        have := hAt.out.2.2.2
        rw [wval_take_ge _ _ (by rw [← unhide HLB]; omega), unhide HZ0, unhide HVB] at this
        exact this
      have dz := hAt.out.2.1
      have hko : Blk (wr.alloc (.cells #[.int .u64 (cy : Int)] 78)) wr.heap.size [cy] := heap_alloc_new wr _
      have hro := hko.rep 0 1 1 (by simp) (by omega)
      have hbA : Below wr.heap.size wr (wr.alloc (.cells #[.int .u64 (cy : Int)] 78)) := (Below.refl _ _).alloc (Nat.le_refl _) _
      have hgl := hBlk.lt
      have CAT := hide (addTo_any _ w2.heap.size k M M wr.heap.size 0 1 1 (some ⟨wr.heap.size, 0, none⟩) zs [cy] (by rw [hzl, hM]) rfl hM1 (by omega) (hBlk.next hbA) dz hro (wDig_one hcy) (fun _ => by omega) (by rw [wval_one, htot, ← hM]; exact unhide HR))
      rw [wval_one, htot, ← hM] at CAT
      have hb5 := hnx.trans (hbA.mono hnx.size)
      have HB5 := hide hb5
      clear hko hro hbA htot dz hM hb5 hAt
      go_wp2_with fail
      refine (unhide CAT).mono ?_
      rintro e w5 ⟨rfl, zs', hl5, hd5, k5, hv5, g5⟩
      have b5 := below_grown (unhide HB5) g5 (Nat.le_refl _) (unhide HB5).size
      clear CAT HB5 g5
      go_wp2_with fail
      refine (trim_blk (B := w2.heap.size) hl5 (by omega) (Nat.le_refl _) k5 hd5).mono ?_
      rintro e w6 ⟨r, rfl, hr, rfl⟩
      rw [hv5, Nat.mul_comm y n] at hr
      go_wp2
      go_ret
      exact ⟨r, rfl, hr, b5⟩

end Go.Proofs.YtiekgpphggejcaaGreatDoor

/- wordsAndPlaces and Shl of limb. -/
namespace Go.Proofs.YtiekgpphggejcaaGreatDoor
open Go.RowKit

theorem ret_ii {a b c d : Int} (h : a = b) (h' : c = d) : Ending.returned (.tuple #[.int .i64 a, .int .i64 c]) = .returned (.tuple #[.int .i64 b, .int .i64 d]) := by rw [h, h']

set_option maxHeartbeats 400000 in
theorem wp_any (z : Int) (k s t : Nat) (w : World) (hk : (k : Int) = min (max z 0) 1048576) (hs : s = k / 64) (ht : t = k % 64) :
    Calls Tryz.prog 128 #[.int .i64 z] w fun e w' => e = .returned (.tuple #[.int .i64 (s : Int), .int .i64 (t : Int)]) ∧ w' = w := by
  have CW := hide (fun w => within_lim z 1048576 k w hk)
  have es : (k : Int) / 64 = (s : Int) := by omega
  have et : (k : Int) % 64 = (t : Int) := by omega
  have hkb : k ≤ 1048576 := by omega
  have ES := hide es
  have ET := hide et
  clear hk hs ht
  go_enter Tryz.func128, Tryz.ntmps128
  go_wp2_with fail
  refine (unhide CW _).mono ?_
  rintro e w1 ⟨rfl, rfl⟩
  go_wp2
  go_ret2
  exact ⟨ret_ii (by first | rfl | exact unhide ES) (by first | rfl | exact unhide ET), rfl⟩

/-- A word moved up by t places: what stays in it, what goes out. -/
theorem up_word {x t c : Nat} (hx : x < 18446744073709551616) (ht : t < 64) (hc : c < 2 ^ t) :
    ((x * 2 ^ t) % 18446744073709551616) ||| c = (x * 2 ^ t) % 18446744073709551616 + c ∧ (x * 2 ^ t) % 18446744073709551616 + c < 18446744073709551616 ∧ x / 2 ^ (64 - t) < 2 ^ t ∧
      (x * 2 ^ t) % 18446744073709551616 + 18446744073709551616 * (x / 2 ^ (64 - t)) = x * 2 ^ t := by
  have hp := pow_split t (by omega)
  have hpos : 0 < 2 ^ t := Nat.pow_pos (by omega)
  have hpos2 : 0 < 2 ^ (64 - t) := Nat.pow_pos (by omega)
  have e1 : x * 2 ^ t % 18446744073709551616 = x % 2 ^ (64 - t) * 2 ^ t := by
    rw [← hp, Nat.mul_mod_mul_right]
  have e2 : x / 2 ^ (64 - t) < 2 ^ t := by rw [Nat.div_lt_iff_lt_mul hpos2, Nat.mul_comm, hp]; exact hx
  have hm := Nat.mod_lt x hpos2
  have hd := Nat.div_add_mod x (2 ^ (64 - t))
  refine ⟨?_, ?_, e2, ?_⟩
  · rw [e1]; exact or_add _ _ _ hc
  · rw [e1]
    have h2 : (x % 2 ^ (64 - t) + 1) * 2 ^ t ≤ 2 ^ (64 - t) * 2 ^ t := Nat.mul_le_mul_right _ hm
    rw [Nat.add_mul, Nat.one_mul, hp] at h2
    omega
  · rw [e1, ← hp]
    have : x * 2 ^ t = (2 ^ (64 - t) * (x / 2 ^ (64 - t)) + x % 2 ^ (64 - t)) * 2 ^ t := by rw [hd]
    rw [this, Nat.add_mul, Nat.mul_right_comm]
    omega

/-- k words are moved up by s words and t places; c is carried. -/
def WShlAt (us zs : List Nat) (N s t k c : Nat) : Prop := zs.length = N ∧ WDig zs ∧ c < 2 ^ t ∧ (∀ j, s + k ≤ j → zs.getD j 0 = 0) ∧ wval zs + 18446744073709551616 ^ (s + k) * c = 18446744073709551616 ^ s * (2 ^ t * wval (us.take k))
theorem wshl_start (us : List Nat) (N s t : Nat) : WShlAt us (List.replicate N 0) N s t 0 0 := by
  refine ⟨by simp, (wzeros N).1, Nat.pow_pos (by omega), fun j _ => ?_, by rw [(wzeros N).2]; simp [wval]⟩
  simp only [List.getD_eq_getElem?_getD, List.getElem?_replicate]; split <;> rfl
theorem wshl_step {us zs : List Nat} {N s t k c x d c2 : Nat} (h : WShlAt us zs N s t k c) (hk : s + k < N) (hx : x = us.getD k 0) (hx64 : x < 18446744073709551616) (ht : t < 64) (hd : d = (x * 2 ^ t) % 18446744073709551616 + c) (hc2 : c2 = x / 2 ^ (64 - t)) :
    WShlAt us (zs.set (s + k) d) N s t (k + 1) c2 := by
  obtain ⟨h1, h2, h3, h4, h5⟩ := h
  obtain ⟨e1, e2, e3, e4⟩ := up_word hx64 ht h3
  refine ⟨by simpa using h1, wDig_set h2 (by omega) (by rw [hd]; exact e2), by rw [hc2]; exact e3, fun j hj => ?_, ?_⟩
  · rw [getD_set _ _ _ _ (by omega), if_neg (by omega)]; exact h4 j (by omega)
  · have hs := wval_set zs (s + k) d (by omega)
    rw [h4 _ (Nat.le_refl _), Nat.mul_zero, Nat.add_zero] at hs
    rw [hs, wval_take_succ, ← hx, ← Nat.add_assoc s k 1, Nat.pow_succ, Nat.mul_assoc]
    have e5 : 18446744073709551616 ^ (s + k) * d + 18446744073709551616 ^ (s + k) * (18446744073709551616 * c2) = 18446744073709551616 ^ (s + k) * c + 18446744073709551616 ^ (s + k) * (x * 2 ^ t) := by
      rw [← Nat.mul_add, ← Nat.mul_add, hd, hc2]
      congr 1
      omega
    have e6 : 18446744073709551616 ^ s * (2 ^ t * (wval (us.take k) + 18446744073709551616 ^ k * x)) = 18446744073709551616 ^ s * (2 ^ t * wval (us.take k)) + 18446744073709551616 ^ (s + k) * (x * 2 ^ t) := by
      rw [Nat.mul_add, Nat.mul_add, Nat.pow_add, Nat.mul_left_comm (2 ^ t), Nat.mul_comm (2 ^ t) x, Nat.mul_assoc]
    omega
theorem wshl_end {us zs : List Nat} {N s t k c : Nat} (h : WShlAt us zs N s t k c) (hk : us.length ≤ k) (hN : s + k < N) (ht : t < 64) : WDig (zs.set (s + k) c) ∧ wval (zs.set (s + k) c) = wval us * 2 ^ (64 * s + t) := by
  obtain ⟨h1, h2, h3, h4, h5⟩ := h
  have hc : c < 18446744073709551616 := Nat.lt_of_lt_of_le h3 (by have := Nat.pow_le_pow_right (n := 2) (by omega) (by omega : t ≤ 64); omega)
  have hs := wval_set zs (s + k) c (by omega)
  rw [h4 _ (Nat.le_refl _), Nat.mul_zero, Nat.add_zero] at hs
  refine ⟨wDig_set h2 (by omega) hc, ?_⟩
  rw [hs, h5, wval_take_ge _ _ hk, Nat.pow_add, Nat.pow_mul, ← Nat.mul_assoc, Nat.mul_comm (wval us)]

set_option maxRecDepth 100000 in
set_option maxHeartbeats 3200000 in
theorem shl_w (w : World) (u : Value) (z : Int) (m k : Nat) (hz : (k : Int) = min (max z 0) 1048576) (hu : InW w u m) :
    Calls Tryz.prog 108 #[u, .int .i64 z] w fun e w' => ∃ r, e = .returned r ∧ NewW w.heap.size w' r (m * 2 ^ k) ∧ Below w.heap.size w w' := by
  obtain ⟨ga, ba, oa, ca, us, rA, cA, vA, lA, CA⟩ := trim_in hu
  have CA := hide CA
  obtain ⟨la, hla⟩ : ∃ la, la = us.length := ⟨_, rfl⟩
  have hzero := wval_zero cA
  rw [vA] at hzero
  rw [← hla] at CA lA hzero
  obtain ⟨s, hs⟩ : ∃ s, s = k / 64 := ⟨_, rfl⟩
  obtain ⟨t, ht⟩ : ∃ t, t = k % 64 := ⟨_, rfl⟩
  have CW := hide (fun w => wp_any z k s t w hz hs ht)
  have hkb : k ≤ 1048576 := by omega
  have hsb : s ≤ 16384 := by omega
  have ht64 : t < 64 := by omega
  have hke : k = 64 * s + t := by omega
  have HKE := hide hke
  have HLA := hide hla
  have HVA := hide vA
  by_cases h0 : la = 0
  · have hm0 : m = 0 := hzero.1 h0
    subst hm0 h0
    clear hu hla hzero hs ht hke hz
    go_enter Tryz.func108, Tryz.ntmps108
    go_wp2_with fail
    refine (unhide CA).mono ?_
    rintro e w1 ⟨rfl, rfl⟩
    clear CA
    go_wp2
    go_ret
    exact ⟨_, rfl, by rw [Nat.zero_mul]; exact newW_nil _ _, Below.refl _ _⟩
  · have hnz : ((la : Int) == 0) = false := by rw [beq_eq_false_iff_ne]; omega
    obtain ⟨N, hN⟩ : ∃ N, N = s + la + 1 := ⟨_, rfl⟩
    have hmk := make_nat N N ((s : Int) + (la : Int) + 1) (by omega) rfl (by omega)
    have hNb : N ≤ 1073758209 := by omega
    have hNl : s + la + 1 ≤ N := by omega
    obtain ⟨t2, ht2⟩ : ∃ t2, t2 = 64 - t := ⟨_, rfl⟩
    have et2 : (64 : Int) - (t : Int) = (t2 : Int) := by omega
    have HT2 := hide ht2
    have hk0 : Blk (w.alloc (.cells (zlist N).toArray 78)) w.heap.size (List.replicate N 0) := heap_alloc_new w _
    have hb0 : Below w.heap.size w (w.alloc (.cells (zlist N).toArray 78)) := (Below.refl _ _).alloc (Nat.le_refl _) _
    have HK0 := hide hk0
    have HB0 := hide hb0
    clear hu hla hzero hs ht hke hz h0 hN ht2 hk0 hb0
    go_enter Tryz.func108, Tryz.ntmps108
    go_wp2_with fail
    refine (unhide CA).mono ?_
    rintro e w1 ⟨rfl, rfl⟩
    clear CA
    go_wp2_with fail
    refine (unhide CW _).mono ?_
    rintro e w2 ⟨rfl, rfl⟩
    clear CW
    go_wp2
    clear hmk
    go_loopw [8, 29] (fun c i wr => ∃ (q cy : Nat) (zs : List Nat), q ≤ la ∧ c = .int .u64 (cy : Int) ∧ i = .int .i64 (q : Int) ∧ cy < 18446744073709551616 ∧ zs.length = N ∧ Blk wr w2.heap.size zs ∧ Hid (WShlAt us zs N s t q cy) ∧ Below w2.heap.size w2 wr)
      (fun _ i _ => la - (intOf i).toNat)
    case atStart => exact ⟨0, 0, List.replicate N 0, Nat.zero_le _, rfl, rfl, by omega, by simp, unhide HK0, wshl_start us N s t, unhide HB0⟩
    case round =>
      obtain ⟨q, cy, zs, hq, rfl, rfl, hcy, hzl, hBlk, hAt, hnx⟩ := hrel
      clear HK0 HB0
      by_cases h1 : q < la
      · obtain rfl := rA.head (by rw [← unhide HLA]; omega)
        obtain ⟨x, hx⟩ : ∃ x : Nat, x = us.getD q 0 := ⟨_, rfl⟩
        have hx64 : x < 18446744073709551616 := by rw [hx]; exact cA.1 q
        have cx : wr.cell? ⟨ba, oa + q, none⟩ = some (.int .u64 (x : Int)) := by rw [hx]; exact (hnx.cell (by exact rA.lt (by rw [← unhide HLA]; omega))).trans (rA.cell q (by rw [← unhide HLA]; omega))
        have cr : wr.cell? ⟨w2.heap.size, s + q, none⟩ = some (.int .u64 (((zs.getD (s + q) 0 : Nat)) : Int)) := hBlk.cell (s + q) (by omega)
        have fr := hBlk.frozen (s + q)
        have hc3 := hAt.out.2.2.1
        obtain ⟨e1, e2, e3, e4⟩ := up_word hx64 ht64 hc3
        obtain ⟨l, hl⟩ : ∃ l, l = x * 2 ^ t % 18446744073709551616 := ⟨_, rfl⟩
        have el := shl_mod x t
        rw [← hl] at el e1 e2
        obtain ⟨d, hd⟩ : ∃ d, d = l + cy := ⟨_, rfl⟩
        have hl64 : l < 18446744073709551616 := by omega
        have eo := bits_or_u64_nat l cy hl64 hcy
        rw [e1, ← hd] at eo
        obtain ⟨c2, hc2⟩ : ∃ c2, c2 = x / 2 ^ t2 := ⟨_, rfl⟩
        have es2 := shr_eq x t2
        rw [← hc2] at es2
        have H2 := hide (wshl_step (d := d) (c2 := c2) hAt.out (by omega) hx hx64 ht64 (by rw [hd, hl]) (by rw [hc2, unhide HT2]))
        have hc64 : c2 < 18446744073709551616 := by rw [hc2]; exact Nat.lt_of_le_of_lt (Nat.div_le_self _ _) hx64
        clear hx hl hd hc2 e1 e2 e3 e4 hc3 hAt
        go_wp2
        exact ⟨⟨q + 1, c2, zs.set (s + q) d, by omega, rfl, by go_num, hc64, by simpa using hzl, hBlk.set (s + q) d, H2, hnx.setCell (Nat.le_refl _) _⟩, by simp [intOf]; omega⟩
      · obtain rfl : q = la := by omega
        have cr : wr.cell? ⟨w2.heap.size, s + q, none⟩ = some (.int .u64 (((zs.getD (s + q) 0 : Nat)) : Int)) := hBlk.cell (s + q) (by omega)
        have fr := hBlk.frozen (s + q)
        obtain ⟨hd, hv⟩ := wshl_end hAt.out (by rw [← unhide HLA]; omega) (by omega) ht64
        rw [unhide HVA, ← unhide HKE] at hv
        have k5 := hBlk.set (s + q) cy
        have HV := hide hv
        have HK5 := hide k5
        have HB5 := hide (hnx.setCell (p := ⟨w2.heap.size, s + q, none⟩) (Nat.le_refl _) (.int .u64 (cy : Int)))
        have HL5 : Hid ((zs.set (s + q) cy).length = N) := by show _ = _; simpa using hzl
        clear hv k5 hAt
        go_wp2_with fail
        refine (trim_blk (B := w2.heap.size) (unhide HL5) (by omega) (Nat.le_refl _) (unhide HK5) hd).mono ?_
        rintro e w6 ⟨r, rfl, hr, rfl⟩
        rw [unhide HV] at hr
        go_wp2
        go_ret
        exact ⟨r, rfl, hr, unhide HB5⟩

end Go.Proofs.YtiekgpphggejcaaGreatDoor

/- Shr of limb. -/
namespace Go.Proofs.YtiekgpphggejcaaGreatDoor
open Go.RowKit

theorem Rep.dropS {w : World} {b o cap s : Nat} {xs : List Nat} (h : Rep w (some ⟨b, o, none⟩) b o cap xs) (hs : s ≤ xs.length) : Rep w (some ⟨b, o + s, none⟩) b (o + s) (cap - s) (xs.drop s) := by
  have hl : (xs.drop s).length = xs.length - s := by simp
  refine ⟨fun _ => rfl, by have := h.room; omega, fun j hj => ?_⟩
  have e : (xs.drop s).getD j 0 = xs.getD (s + j) 0 := by simp [List.getD_eq_getElem?_getD]
  rw [e, Nat.add_assoc]
  exact h.cell (s + j) (by omega)

/-- A word moved down by t places: r comes in from above. -/
theorem down_word {c r t : Nat} (hc : c < 18446744073709551616) (ht : t < 64) (hr : r < 2 ^ t) :
    (c / 2 ^ t) ||| (r * 2 ^ (64 - t)) = (18446744073709551616 * r + c) / 2 ^ t ∧ r * 2 ^ (64 - t) < 18446744073709551616 ∧ c * 2 ^ (64 - t) % 18446744073709551616 = ((18446744073709551616 * r + c) % 2 ^ t) * 2 ^ (64 - t) := by
  have hp := pow_split t (by omega)
  have hpos : 0 < 2 ^ t := Nat.pow_pos (by omega)
  have h1 : c / 2 ^ t < 2 ^ (64 - t) := by rw [Nat.div_lt_iff_lt_mul hpos, hp]; exact hc
  have h2 : (r + 1) * 2 ^ (64 - t) ≤ 2 ^ t * 2 ^ (64 - t) := Nat.mul_le_mul_right _ hr
  have e0 : 18446744073709551616 * r = 2 ^ t * (r * 2 ^ (64 - t)) := by
    rw [← hp, Nat.mul_comm (2 ^ (64 - t)), Nat.mul_assoc, Nat.mul_comm r]
  have hpos2 : 0 < 2 ^ (64 - t) := Nat.pow_pos (by omega)
  rw [Nat.add_mul, Nat.one_mul, Nat.mul_comm (2 ^ t), hp] at h2
  refine ⟨?_, by omega, ?_⟩
  · rw [Nat.or_comm, or_add r (c / 2 ^ t) (64 - t) h1, e0, Nat.mul_add_div hpos]
  · rw [e0, Nat.mul_add_mod, ← hp, Nat.mul_comm (2 ^ (64 - t)) (2 ^ t), Nat.mul_mod_mul_right]

theorem wval_shr {xs : List Nat} (h : WDig xs) (s t : Nat) : wval (xs.drop s) / 2 ^ t = wval xs / 2 ^ (64 * s + t) := by
  rw [Nat.pow_add, ← Nat.div_div_eq_div_mul, Nat.pow_mul]
  congr 1
  have hv := wval_drop xs s
  have hl := wval_lt h s
  rw [hv, show (2 : Nat) ^ 64 = 18446744073709551616 from rfl, Nat.add_mul_div_left _ _ (wpow_pos s), Nat.div_eq_of_lt hl, Nat.zero_add]

set_option maxRecDepth 100000 in
set_option maxHeartbeats 3200000 in
theorem shr_w (w : World) (u : Value) (z : Int) (m k : Nat) (hz : (k : Int) = min (max z 0) 1048576) (hu : InW w u m) :
    Calls Tryz.prog 107 #[u, .int .i64 z] w fun e w' => ∃ r, e = .returned r ∧ NewW w.heap.size w' r (m / 2 ^ k) ∧ Below w.heap.size w w' := by
  obtain ⟨ga, ba, oa, ca, xs, rfl, rA, dA, vA, lA⟩ := hu
  obtain ⟨la, hla⟩ : ∃ la, la = xs.length := ⟨_, rfl⟩
  have hroom := rA.room
  rw [← hla] at lA hroom ⊢
  obtain ⟨s, hs⟩ : ∃ s, s = k / 64 := ⟨_, rfl⟩
  obtain ⟨t, ht⟩ : ∃ t, t = k % 64 := ⟨_, rfl⟩
  have CW := hide (fun w => wp_any z k s t w hz hs ht)
  have ht64 : t < 64 := by omega
  have hke : k = 64 * s + t := by omega
  have hval : wval (xs.drop s) / 2 ^ t = m / 2 ^ k := by rw [wval_shr dA, ← hke, vA]
  have HVL := hide hval
  have HLA := hide hla
  by_cases h0 : la ≤ s
  · have h0i : (la : Int) ≤ (s : Int) := by omega
    have hz0 : Hid (m / 2 ^ k = 0) := by
      show _ = _
      rw [← hval, List.drop_eq_nil_of_le (by omega), show wval [] = 0 from rfl, Nat.zero_div]
    clear hla hs ht hke hz hval vA
    go_enter Tryz.func107, Tryz.ntmps107
    go_wp2_with fail
    refine (unhide CW _).mono ?_
    rintro e w2 ⟨rfl, rfl⟩
    clear CW
    go_wp2
    go_ret
    exact ⟨_, rfl, by rw [unhide hz0]; exact newW_nil _ _, Below.refl _ _⟩
  · have h0i : ¬ (la : Int) ≤ (s : Int) := by omega
    obtain rfl := rA.head (by omega)
    obtain ⟨M, hM⟩ : ∃ M, la = s + M := ⟨la - s, by omega⟩
    have hMs : la - s = M := by omega
    have hcs : ¬ ca = s := by omega
    have hsi : 0 ≤ (s : Int) ∧ (s : Int) ≤ (la : Int) := by omega
    obtain ⟨cc, hcc⟩ : ∃ cc, cc = ca - s := ⟨_, rfl⟩
    have rD := rA.dropS (s := s) (by omega)
    rw [← hcc] at rD
    have hcc2 : ca - s = cc := hcc.symm
    have dD := wDig_drop dA s
    have hdl : (xs.drop s).length = M := by simp; omega
    obtain ⟨t2, ht2⟩ : ∃ t2, t2 = 64 - t := ⟨_, rfl⟩
    have et2 : (64 : Int) - (t : Int) = (t2 : Int) := by omega
    have HT2 := hide ht2
    have hp0 : 0 < 2 ^ t := Nat.pow_pos (by omega)
    have hp64 : 2 ^ t < 18446744073709551616 := by
      have := Nat.pow_le_pow_right (n := 2) (by omega) (by omega : t ≤ 63)
      omega
    have HP64 := hide hp64
    have hMb : M ≤ 1073741824 := by omega
    clear hla hs ht hke hz hval vA ht2 hM hcc hp64 rA hroom dA
    generalize xs.drop s = os at *
    have HDL := hide hdl
    clear hdl
    go_enter Tryz.func107, Tryz.ntmps107
    go_wp2_with fail
    refine (unhide CW _).mono ?_
    rintro e w2 ⟨rfl, rfl⟩
    clear CW
    go_wp2_with fail
    refine (copyOf_any _ _ ba (oa + s) cc M os (unhide HDL) (by omega) rD).mono ?_
    rintro e w3 ⟨rfl, k3, b3⟩
    go_wp2
    go_loopw [8, 9] (fun c i wr => ∃ (q r cy : Nat) (zs : List Nat), q ≤ M ∧ c = .int .u64 (cy : Int) ∧ i = .int .i64 ((q : Int) - 1) ∧ cy < 18446744073709551616 ∧ zs.length = M ∧ Blk wr w2.heap.size zs ∧ Hid (cy = r * 2 ^ t2) ∧ Hid (WDivAt os zs (2 ^ t) q r) ∧ Below w2.heap.size w2 wr)
      (fun _ i _ => (intOf i + 1).toNat)
    case atStart => exact ⟨M, 0, 0, os, Nat.le_refl _, rfl, rfl, by omega, unhide HDL, k3, by show 0 = 0 * _; rw [Nat.zero_mul], by rw [← unhide HDL]; exact wdiv_start dD hp0, b3⟩
    case round =>
      obtain ⟨q, r, cy, zs, hq, rfl, rfl, hcy, hzl, hBlk, hCy, hAt, hnx⟩ := hrel
      by_cases h1 : q = 0
      · subst h1
        obtain ⟨e1, _⟩ := wdiv_end hAt.out
        rw [unhide HVL] at e1
        have hd := hAt.out.2.1
        have HE := hide e1
        clear e1 hAt hCy
        go_wp2_with fail
        refine (trim_blk (B := w2.heap.size) hzl (by omega) (Nat.le_refl _) hBlk hd).mono ?_
        rintro e w6 ⟨v, rfl, hv, rfl⟩
        rw [unhide HE] at hv
        go_wp2
        go_ret
        exact ⟨v, rfl, hv, hnx⟩
      · obtain ⟨j, rfl⟩ : ∃ j, q = j + 1 := ⟨q - 1, by omega⟩
        have ej : ((j + 1 : Nat) : Int) - 1 = (j : Int) := by omega
        rw [ej]
        obtain ⟨c, hc⟩ : ∃ c : Nat, c = zs.getD j 0 := ⟨_, rfl⟩
        have cr : wr.cell? ⟨w2.heap.size, j, none⟩ = some (.int .u64 (c : Int)) := by rw [hc]; exact hBlk.cell j (by omega)
        have fr := hBlk.frozen j
        have hc64 : c < 18446744073709551616 := by rw [hc]; exact hAt.out.2.1 j
        obtain ⟨Q, hQ⟩ : ∃ Q, Q = (18446744073709551616 * r + c) / 2 ^ t := ⟨_, rfl⟩
        obtain ⟨R, hR⟩ : ∃ R, R = (18446744073709551616 * r + c) % 2 ^ t := ⟨_, rfl⟩
        obtain ⟨H2, hq64⟩ := wdiv_step hAt.out (by rw [unhide HDL]; omega) (unhide HP64) hc hQ hR
        obtain ⟨f1, f2, f3⟩ := down_word hc64 ht64 hAt.out.2.2.1
        rw [← unhide HT2, ← hCy.out, ← hQ] at f1
        rw [← unhide HT2, ← hR] at f3
        have H2 := hide H2
        obtain ⟨a, ha⟩ : ∃ a, a = c / 2 ^ t := ⟨_, rfl⟩
        have es := shr_eq c t
        rw [← ha] at es f1
        have ha64 : a < 18446744073709551616 := by rw [ha]; exact Nat.lt_of_le_of_lt (Nat.div_le_self _ _) hc64
        have eo := bits_or_u64_nat a cy ha64 hcy
        rw [f1] at eo
        have el := shl_mod c t2
        obtain ⟨c2, hc2⟩ : ∃ c2, c2 = c * 2 ^ t2 % 18446744073709551616 := ⟨_, rfl⟩
        rw [← hc2] at el f3
        have hc2b : c2 < 18446744073709551616 := by rw [hc2]; exact Nat.mod_lt _ (by omega)
        have HF3 := hide f3
        clear hc hQ hR f1 f2 f3 ha hc2 hAt hCy
        go_wp2
        exact ⟨⟨j, R, c2, zs.set j Q, by omega, rfl, by go_num, hc2b, by simpa using hzl, hBlk.set j Q, HF3, H2, hnx.setCell (Nat.le_refl _) _⟩, by simp [intOf]⟩

end Go.Proofs.YtiekgpphggejcaaGreatDoor
